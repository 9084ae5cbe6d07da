import PyProof.Rows.All
import Wide.All
import OpenK.AllK
import Wide.FinOn
import HandS.TupSets
import HandS.TupLen
import HandS.Iter
import HandS.Walk
import HandS.Conv
import HandS.ForMost
import HandS.IsInst
import HandS.Gcd
import HandS.Wide
import HandS.TupMul
import HandS.TupAny
import HandS.TupLe
import HandS.Style
import HandS.Zip
import HandS.Flow
import KE.KMathG
import KE.DatumOrd
import PyProof.ReprRoads
import KE.GoesEnum
import HandS.Comp
import HandS.SetFor
import HandS.Strs
import HandS.WordsDict
import HandS.WideBits
import HandS.RaiseMore
import KE.BitLaws
import HandS.Dict
import KE.DataCmp
import KE.SortData
import PyProof.StrLawsRepr
import HandS.Small
import HandS.More
import HandS.DictComp
import PySem.Challenge.RW_drawnbits_k47_whole_nearest_tables
set_option Elab.async false
set_option linter.all false
set_option maxRecDepth 100000
set_option maxHeartbeats 4000000
set_option synthInstance.maxHeartbeats 400000
set_option synthInstance.maxSize 4096
namespace MR
def Sm (n : Nat) (q : Rat) : Prop := q.num.natAbs < 2 ^ n ∧ q.den < 2 ^ n
theorem Sm.mono {m n : Nat} {q : Rat} (h : Sm m q) (l : m ≤ n) : Sm n q :=
  ⟨Nat.lt_of_lt_of_le h.1 (Nat.pow_le_pow_right (by decide) l), Nat.lt_of_lt_of_le h.2 (Nat.pow_le_pow_right (by decide) l)⟩
theorem divInt_parts (a b : Int) (hb : 0 < b) : (Rat.divInt a b).num = a / ((Nat.gcd a.natAbs b.natAbs : Nat) : Int) ∧ (((Rat.divInt a b).den : Nat) : Int) = b / ((Nat.gcd a.natAbs b.natAbs : Nat) : Int) := by
  obtain ⟨n, rfl⟩ : ∃ n : Nat, b = (n : Int) := ⟨b.toNat, by omega⟩
  have hn : n ≠ 0 := by omega
  have e : (Rat.divInt a (n : Int)) = Rat.normalize a n hn := by
    rw [Rat.normalize_eq_mkRat]
    rfl
  rw [e, Rat.normalize_eq]
  simp only [Int.natAbs_natCast]
  refine ⟨trivial, ?_⟩
  rw [Int.natCast_ediv]
theorem lowest_eq (a b : Int) (hb : 0 < b) : a.fdiv ((Nat.gcd a.natAbs b.natAbs : Nat) : Int) = (Rat.divInt a b).num ∧ b.fdiv ((Nat.gcd a.natAbs b.natAbs : Nat) : Int) = (((Rat.divInt a b).den : Nat) : Int) := by
  obtain ⟨h1, h2⟩ := divInt_parts a b hb
  rw [h1, h2, Int.fdiv_eq_ediv_of_nonneg _ (Int.natCast_nonneg _), Int.fdiv_eq_ediv_of_nonneg _ (Int.natCast_nonneg _)]
  exact ⟨rfl, rfl⟩
theorem sm_divInt {a b : Int} {n : Nat} (ha : a.natAbs < 2 ^ n) (h0 : 0 < b) (hb : b.natAbs < 2 ^ n) : Sm n (Rat.divInt a b) := by
  obtain ⟨h1, h2⟩ := divInt_parts a b h0
  constructor
  · rw [h1, Int.natAbs_ediv_of_dvd]
    · exact Nat.lt_of_le_of_lt (Nat.div_le_self _ _) ha
    · exact Int.ofNat_dvd_left.mpr (Nat.gcd_dvd_left _ _)
  · have : ((Rat.divInt a b).den : Int).natAbs < 2 ^ n := by
      rw [h2, Int.natAbs_ediv_of_dvd]
      · exact Nat.lt_of_le_of_lt (Nat.div_le_self _ _) hb
      · exact Int.ofNat_dvd_left.mpr (Nat.gcd_dvd_right _ _)
    simpa using this
theorem mul_eq (p q : Rat) : p * q = Rat.divInt (p.num * q.num) ((p.den : Int) * (q.den : Int)) := by
  conv => lhs; rw [← Rat.num_divInt_den p, ← Rat.num_divInt_den q]
  rw [Rat.divInt_mul_divInt]
theorem add_eq (p q : Rat) : p + q = Rat.divInt (p.num * (q.den : Int) + q.num * (p.den : Int)) ((p.den : Int) * (q.den : Int)) := by
  conv => lhs; rw [← Rat.num_divInt_den p, ← Rat.num_divInt_den q]
  rw [Rat.divInt_add_divInt _ _ (by have := p.den_nz; omega) (by have := q.den_nz; omega)]
theorem den_pos (p : Rat) : 0 < (p.den : Int) := by have := p.den_nz; omega
theorem natAbs_mul_lt {x y : Int} {m n : Nat} (hx : x.natAbs < 2 ^ m) (hy : y.natAbs < 2 ^ n) : (x * y).natAbs < 2 ^ (m + n) := by
  rw [Int.natAbs_mul, Nat.pow_add]
  exact Nat.mul_lt_mul'' hx hy
theorem natAbs_add_lt {x y : Int} {n : Nat} (hx : x.natAbs < 2 ^ n) (hy : y.natAbs < 2 ^ n) : (x + y).natAbs < 2 ^ (n + 1) := by
  rw [Nat.pow_succ]
  omega
theorem Sm.mul {m n : Nat} {p q : Rat} (hp : Sm m p) (hq : Sm n q) : Sm (m + n) (p * q) := by
  rw [mul_eq]
  refine sm_divInt (natAbs_mul_lt hp.1 hq.1) (Int.mul_pos (den_pos p) (den_pos q)) ?_
  exact natAbs_mul_lt (x := (p.den : Int)) (y := (q.den : Int)) (by simpa using hp.2) (by simpa using hq.2)
theorem Sm.add {m n : Nat} {p q : Rat} (hp : Sm m p) (hq : Sm n q) : Sm (m + n + 1) (p + q) := by
  rw [add_eq]
  have h1 := natAbs_mul_lt (y := (q.den : Int)) hp.1 (by simpa using hq.2)
  have h2 := natAbs_mul_lt (y := (p.den : Int)) hq.1 (by simpa using hp.2)
  rw [Nat.add_comm n m] at h2
  refine sm_divInt (natAbs_add_lt h1 h2) (Int.mul_pos (den_pos p) (den_pos q)) ?_
  have := natAbs_mul_lt (x := (p.den : Int)) (y := (q.den : Int)) (by simpa using hp.2) (by simpa using hq.2)
  exact Nat.lt_of_lt_of_le this (Nat.pow_le_pow_right (by decide) (by omega))
theorem div_eq (p q : Rat) (hq : 0 < q.num) : p / q = Rat.divInt (p.num * (q.den : Int)) ((p.den : Int) * q.num) := by
  rw [Rat.div_def, Rat.inv_def]
  conv => lhs; rw [← Rat.num_divInt_den p]
  rw [Rat.divInt_mul_divInt]
theorem sm_zero {n : Nat} : Sm (n + 1) 0 := ⟨by show 0 < 2 ^ (n + 1); exact Nat.pow_pos (by decide), by show 1 < 2 ^ (n + 1); rw [Nat.pow_succ]; have : 0 < 2 ^ n := Nat.pow_pos (by decide); omega⟩
end MR
namespace MR
theorem mul_den (q : Rat) : q * (q.den : Rat) = (q.num : Rat) := by
  have h : Rat.divInt q.num q.den = q := Rat.num_divInt_den q
  rw [Rat.divInt_eq_div] at h
  have h0 : (((q.den : Nat) : Int) : Rat) ≠ 0 := by
    have := q.den_nz
    intro e
    rw [Rat.intCast_natCast] at e
    exact this (Rat.natCast_inj.mp e)
  rw [Rat.intCast_natCast] at h h0
  generalize (q.den : Rat) = x at *
  generalize (q.num : Rat) = y at *
  rw [← h]
  grind
def Cm (D : Nat) (q : Rat) : Prop := ∃ k : Int, q * (D : Rat) = (k : Rat)
theorem cm_den {D : Nat} {q : Rat} (h : Cm D q) : q.den ∣ D := by
  obtain ⟨k, h⟩ := h
  have e : q * (q.den : Rat) = (q.num : Rat) := mul_den q
  have h2 : (q.num : Rat) * ((D : Int) : Rat) = (k : Rat) * ((q.den : Int) : Rat) := by
    rw [Rat.intCast_natCast, Rat.intCast_natCast]
    grind
  rw [← Rat.intCast_mul, ← Rat.intCast_mul, Rat.intCast_inj] at h2
  have h3 : q.den ∣ q.num.natAbs * D := by
    have : (q.den : Int) ∣ q.num * (D : Int) := ⟨k, by rw [h2]; exact Int.mul_comm _ _⟩
    have := Int.natAbs_dvd_natAbs.mpr this
    rw [Int.natAbs_mul] at this
    exact this
  exact (Nat.Coprime.dvd_of_dvd_mul_left q.reduced.symm h3)
theorem cm_int (D : Nat) (k : Int) : Cm D (k : Rat) := ⟨k * D, by rw [Rat.intCast_mul, Rat.intCast_natCast]⟩
theorem Cm.add {D : Nat} {p q : Rat} (hp : Cm D p) (hq : Cm D q) : Cm D (p + q) := by
  obtain ⟨k, hk⟩ := hp
  obtain ⟨l, hl⟩ := hq
  exact ⟨k + l, by rw [Rat.intCast_add]; grind⟩
theorem Cm.sub {D : Nat} {p q : Rat} (hp : Cm D p) (hq : Cm D q) : Cm D (p - q) := by
  obtain ⟨k, hk⟩ := hp
  obtain ⟨l, hl⟩ := hq
  exact ⟨k - l, by rw [Rat.intCast_sub]; grind⟩
theorem Cm.mul {D E : Nat} {p q : Rat} (hp : Cm D p) (hq : Cm E q) : Cm (D * E) (p * q) := by
  obtain ⟨k, hk⟩ := hp
  obtain ⟨l, hl⟩ := hq
  exact ⟨k * l, by rw [Rat.intCast_mul, Rat.natCast_mul]; grind⟩
theorem Cm.dvd {D E : Nat} {p : Rat} (hp : Cm D p) (h : D ∣ E) : Cm E p := by
  obtain ⟨k, hk⟩ := hp
  obtain ⟨c, rfl⟩ := h
  exact ⟨k * c, by rw [Rat.intCast_mul, Rat.natCast_mul, Rat.intCast_natCast]; grind⟩
theorem Cm.sum {D : Nat} : ∀ {qs : List Rat}, (∀ q ∈ qs, Cm D q) → Cm D qs.sum
  | [], _ => cm_int D 0
  | q :: qs, h => by
    rw [List.sum_cons]
    exact (h q List.mem_cons_self).add (Cm.sum fun x hx => h x (List.mem_cons_of_mem _ hx))
theorem Cm.sm {D n : Nat} {q : Rat} (h : Cm D q) (hD : 0 < D) (hn : D < 2 ^ n) {m : Nat} (h0 : 0 ≤ q) (h1 : q < (2 ^ m : Nat)) : Sm (n + m) q := by
  have hd : q.den ≤ D := Nat.le_of_dvd hD (cm_den h)
  have hm : 0 < 2 ^ m := Nat.pow_pos (by decide)
  have hl : q.den < 2 ^ n := Nat.lt_of_le_of_lt hd hn
  have hb : 2 ^ n ≤ 2 ^ (n + m) := Nat.pow_le_pow_right (by decide) (by omega)
  refine ⟨?_, Nat.lt_of_lt_of_le hl hb⟩
  have hp : 0 ≤ q.num := Rat.num_nonneg.mpr h0
  have := (Rat.lt_iff _ _).mp h1
  rw [Rat.num_natCast, Rat.den_natCast] at this
  have h2 : q.num < ((2 ^ m * q.den : Nat) : Int) := by
    rw [Int.natCast_mul]
    simpa using this
  have h3 : q.num.natAbs < 2 ^ m * q.den := by omega
  have h4 : 2 ^ m * q.den < 2 ^ m * 2 ^ n := Nat.mul_lt_mul_of_pos_left hl hm
  rw [Nat.pow_add, Nat.mul_comm (2 ^ n)]
  exact Nat.lt_trans h3 h4
theorem sum_nonneg : ∀ {qs : List Rat}, (∀ q ∈ qs, 0 ≤ q) → 0 ≤ qs.sum
  | [], _ => by decide
  | q :: qs, h => by
    rw [List.sum_cons]
    have h1 := h q List.mem_cons_self
    have h2 := sum_nonneg fun x hx => h x (List.mem_cons_of_mem _ hx)
    grind
theorem sub_sum {ps qs : List Rat} (s : List.Sublist ps qs) (h : ∀ q ∈ qs, 0 ≤ q) : ps.sum ≤ qs.sum := by
  induction s with
  | slnil => exact Rat.le_refl
  | cons a s ih =>
    rw [List.sum_cons]
    have h1 := h a List.mem_cons_self
    have h2 := ih fun x hx => h x (List.mem_cons_of_mem _ hx)
    grind
  | cons_cons a s ih =>
    rw [List.sum_cons, List.sum_cons]
    have h2 := ih fun x hx => h x (List.mem_cons_of_mem _ hx)
    grind
theorem mem_le_sum {qs : List Rat} {q : Rat} (hq : q ∈ qs) (h : ∀ q ∈ qs, 0 ≤ q) : q ≤ qs.sum := by
  have := sub_sum (List.singleton_sublist.mpr hq) h
  rw [List.sum_cons] at this
  have e : ([] : List Rat).sum = 0 := rfl
  rw [e] at this
  grind
structure Sb (n : Nat) (qs : List Rat) : Prop where
  pos : ∀ q ∈ qs, 0 ≤ q
  top : qs.sum < (2 ^ 40 : Nat)
  com : ∃ D : Nat, 0 < D ∧ D < 2 ^ n ∧ ∀ q ∈ qs, Cm D q
theorem Sb.mono {m n : Nat} {qs : List Rat} (h : Sb m qs) (l : m ≤ n) : Sb n qs :=
  ⟨h.pos, h.top, let ⟨D, h1, h2, h3⟩ := h.com; ⟨D, h1, Nat.lt_of_lt_of_le h2 (Nat.pow_le_pow_right (by decide) l), h3⟩⟩
theorem Sb.sub {n : Nat} {ps qs : List Rat} (h : Sb n qs) (s : List.Sublist ps qs) : Sb n ps :=
  ⟨fun q hq => h.pos q (s.subset hq), by have := sub_sum s h.pos; have := h.top; grind, let ⟨D, h1, h2, h3⟩ := h.com; ⟨D, h1, h2, fun q hq => h3 q (s.subset hq)⟩⟩
theorem Sb.sum_sm {n : Nat} {qs : List Rat} (h : Sb n qs) : Sm (n + 40) qs.sum := by
  obtain ⟨D, h1, h2, h3⟩ := h.com
  exact (Cm.sum h3).sm h1 h2 (sum_nonneg h.pos) h.top
theorem Sb.mem_sm {n : Nat} {qs : List Rat} (h : Sb n qs) {q : Rat} (hq : q ∈ qs) : Sm (n + 40) q := by
  obtain ⟨D, h1, h2, h3⟩ := h.com
  have := mem_le_sum hq h.pos
  have := h.top
  exact (h3 q hq).sm h1 h2 (h.pos q hq) (by grind)
structure Tab (n : Nat) (qs : List Rat) : Prop where
  ne : qs ≠ []
  len : qs.length ≤ 8
  pos : ∀ q ∈ qs, 0 ≤ q
  one : qs.sum = 1
  com : ∃ D : Nat, 0 < D ∧ D < 2 ^ n ∧ ∀ q ∈ qs, Cm D q
theorem Tab.mono {m n : Nat} {qs : List Rat} (h : Tab m qs) (l : m ≤ n) : Tab n qs :=
  ⟨h.ne, h.len, h.pos, h.one, let ⟨D, h1, h2, h3⟩ := h.com; ⟨D, h1, Nat.lt_of_lt_of_le h2 (Nat.pow_le_pow_right (by decide) l), h3⟩⟩
theorem Tab.sb {n : Nat} {qs : List Rat} (h : Tab n qs) : Sb n qs := ⟨h.pos, by rw [h.one]; exact Rat.lt_iff_le_and_ne.mpr ⟨by decide, by decide⟩, h.com⟩
theorem Tab.le1 {n : Nat} {qs : List Rat} (h : Tab n qs) {q : Rat} (hq : q ∈ qs) : q ≤ 1 := by
  have := mem_le_sum hq h.pos
  rw [h.one] at this
  exact this
theorem Tab.sm {n : Nat} {qs : List Rat} (h : Tab n qs) {q : Rat} (hq : q ∈ qs) : Sm (n + 1) q := by
  obtain ⟨D, h1, h2, h3⟩ := h.com
  have := h.le1 hq
  exact (h3 q hq).sm (m := 1) h1 h2 (h.pos q hq) (by
    have : (1 : Rat) < ((2 ^ 1 : Nat) : Rat) := Rat.lt_iff_le_and_ne.mpr ⟨by decide, by decide⟩
    grind)
structure Lot (many : Nat) (ns : List Nat) : Prop where
  asc : ns.Pairwise (· < ·)
  lt : ∀ n ∈ ns, n < many
  le : many ≤ 8
def lotQ (qs : List Rat) (ns : List Nat) : List Rat := ns.map fun i => qs.getD i 0
theorem lot_sub0 : ∀ (qs : List Rat) (a : Nat) (ns : List Nat), ns.Pairwise (· < ·) → (∀ n ∈ ns, a ≤ n ∧ n < a + qs.length) → (ns.map fun i => qs.getD (i - a) 0).Sublist qs
  | [], a, ns, _, h => by
    cases ns with
    | nil => exact .slnil
    | cons n ns => have := h n List.mem_cons_self; simp at this; omega
  | q :: qs, a, [], _, _ => List.nil_sublist _
  | q :: qs, a, n :: ns, hp, h => by
    have hn := h n List.mem_cons_self
    rw [List.pairwise_cons] at hp
    have step : ∀ ms : List Nat, ms.Pairwise (· < ·) → (∀ m ∈ ms, a + 1 ≤ m ∧ m < a + (qs.length + 1)) → (ms.map fun i => (q :: qs).getD (i - a) 0).Sublist qs := fun ms h1 h2 => by
      have ih := lot_sub0 qs (a + 1) ms h1 fun m hm => by have := h2 m hm; omega
      have e : (ms.map fun i => (q :: qs).getD (i - a) 0) = ms.map fun i => qs.getD (i - (a + 1)) 0 := by
        refine List.map_congr_left fun m hm => ?_
        have := h2 m hm
        rw [show m - a = (m - (a + 1)) + 1 by omega]
        rfl
      rw [e]; exact ih
    by_cases e : n = a
    · subst e
      have hs := step ns hp.2 fun m hm => by
        have h1 := hp.1 m hm
        have h2 := h m (List.mem_cons_of_mem _ hm)
        rw [List.length_cons] at h2
        omega
      rw [List.map_cons]
      have e0 : (q :: qs).getD (n - n) 0 = q := by rw [Nat.sub_self]; rfl
      rw [e0]
      exact .cons_cons _ hs
    · refine .cons _ (step (n :: ns) (List.pairwise_cons.mpr hp) fun m hm => ?_)
      have h2 := h m hm
      rw [List.length_cons] at h2
      rcases List.mem_cons.mp hm with rfl | hm
      · omega
      · have := hp.1 m hm; omega
theorem Lot.sub {qs : List Rat} {ns : List Nat} (h : Lot qs.length ns) : (lotQ qs ns).Sublist qs := by
  have := lot_sub0 qs 0 ns h.asc fun n hn => by have := h.lt n hn; omega
  simpa [lotQ] using this
theorem Lot.len {many : Nat} {ns : List Nat} (h : Lot many ns) : ns.length ≤ 8 := by
  have key : ∀ (ns : List Nat) (a : Nat), ns.Pairwise (· < ·) → (∀ n ∈ ns, a ≤ n ∧ n < 8) → ns.length ≤ 8 - a := by
    intro ns
    induction ns with
    | nil => intro a _ _; simp
    | cons n ns ih =>
      intro a hp h
      rw [List.pairwise_cons] at hp
      have h1 := h n List.mem_cons_self
      have := ih (n + 1) hp.2 fun m hm => by
        have h2 := hp.1 m hm
        have h3 := h m (List.mem_cons_of_mem _ hm)
        omega
      rw [List.length_cons]
      omega
  have := key ns 0 h.asc fun n hn => by have := h.lt n hn; have := h.le; omega
  omega
theorem zip_fst {qs : List Rat} {ns : List Nat} (h : ns.length = qs.length) : (qs.zip ns).map (·.1) = qs := by
  rw [List.map_fst_zip (by omega)]
def numd {α : Type} : Nat → List α → List (Nat × α)
  | _, [] => []
  | i, x :: xs => (i, x) :: numd (i + 1) xs
theorem numd_mem {α : Type} : ∀ {xs : List α} {i : Nat} {p : Nat × α}, p ∈ numd i xs → p.2 ∈ xs ∧ i ≤ p.1 ∧ p.1 < i + xs.length
  | [], _, _, h => by simp [numd] at h
  | x :: xs, i, p, h => by
    rcases List.mem_cons.mp h with rfl | h
    · exact ⟨List.mem_cons_self, Nat.le_refl _, by simp⟩
    · obtain ⟨h1, h2, h3⟩ := numd_mem h
      exact ⟨List.mem_cons_of_mem _ h1, by omega, by rw [List.length_cons]; omega⟩
theorem div_self' {W : Rat} (h : W ≠ 0) : W / W = 1 := by
  rw [Rat.div_def]; exact Rat.mul_inv_cancel W h
theorem sum_add {α : Type} (f g : α → Rat) : ∀ (l : List α), (l.map fun a => f a + g a).sum = (l.map f).sum + (l.map g).sum
  | [] => (Rat.zero_add 0).symm
  | a :: l => by
    rw [List.map_cons, List.sum_cons, List.map_cons, List.sum_cons, List.map_cons, List.sum_cons, sum_add f g l]
    grind
theorem sum_zero {α : Type} : ∀ (l : List α), (l.map fun _ => (0 : Rat)).sum = 0
  | [] => rfl
  | a :: l => by rw [List.map_cons, List.sum_cons, sum_zero l]; exact Rat.zero_add 0
theorem sum_mulL {α : Type} (c : Rat) (f : α → Rat) : ∀ (l : List α), (l.map fun a => c * f a).sum = c * (l.map f).sum
  | [] => (Rat.mul_zero c).symm
  | a :: l => by
    rw [List.map_cons, List.sum_cons, List.map_cons, List.sum_cons, sum_mulL c f l]
    grind
theorem sum_swap {α β : Type} (F : α → β → Rat) (is : List β) : ∀ (l : List α), (is.map fun i => (l.map fun a => F a i).sum).sum = (l.map fun a => (is.map fun i => F a i).sum).sum
  | [] => sum_zero is
  | a :: l => by
    rw [List.map_cons, List.sum_cons, ← sum_swap F is l, ← sum_add]
    congr 1
theorem range_getD : ∀ (t : List Rat), ((List.range t.length).map fun i => t.getD i 0) = t := fun t => by
  apply List.ext_getElem
  · simp
  · intro i h1 h2
    simp
    rw [List.getElem?_eq_getElem h2]
    rfl
def mixc (qs : List Rat) (ts : List (List Rat)) (i : Nat) : List Rat := (qs.zip ts).map fun p => p.1 * p.2.getD i 0
def mix (qs : List Rat) (ts : List (List Rat)) (k : Nat) : List Rat := (List.range k).map fun i => (mixc qs ts i).sum
theorem common_all {n : Nat} : ∀ (ts : List (List Rat)), (∀ t ∈ ts, Tab n t) → ∃ D : Nat, 0 < D ∧ D < 2 ^ (n * ts.length + 1) ∧ ∀ t ∈ ts, ∀ q ∈ t, Cm D q
  | [], _ => ⟨1, by decide, by simp, fun _ h => by cases h⟩
  | t :: ts, h => by
    obtain ⟨D, h1, h2, h3⟩ := common_all ts fun x hx => h x (List.mem_cons_of_mem _ hx)
    obtain ⟨E, g1, g2, g3⟩ := (h t List.mem_cons_self).com
    refine ⟨E * D, Nat.mul_pos g1 h1, ?_, fun x hx q hq => ?_⟩
    · have := Nat.mul_lt_mul'' g2 h2
      rw [← Nat.pow_add] at this
      rw [List.length_cons, Nat.mul_add, Nat.mul_one]
      exact Nat.lt_of_lt_of_le this (Nat.pow_le_pow_right (by decide) (by omega))
    · rcases List.mem_cons.mp hx with rfl | hx
      · exact (g3 q hq).dvd ⟨D, rfl⟩
      · exact (h3 x hx q hq).dvd ⟨E, Nat.mul_comm _ _⟩
theorem getD_cases (t : List Rat) (i : Nat) : t.getD i 0 ∈ t ∨ t.getD i 0 = 0 := by
  by_cases h : i < t.length
  · left
    rw [List.getD_eq_getElem?_getD, List.getElem?_eq_getElem h]
    exact List.getElem_mem h
  · right
    rw [List.getD_eq_getElem?_getD, List.getElem?_eq_none (by omega)]
    rfl
structure Mixes (m n k : Nat) (qs : List Rat) (ts : List (List Rat)) : Prop where
  tab : Tab m qs
  tabs : ∀ t ∈ ts, Tab n t
  len : ts.length = qs.length
  wid : ∀ t ∈ ts, t.length = k
theorem Mixes.le8 {m n k : Nat} {qs : List Rat} {ts : List (List Rat)} (h : Mixes m n k qs ts) : ts.length ≤ 8 := by rw [h.len]; exact h.tab.len
theorem Mixes.comL {m n k : Nat} {qs : List Rat} {ts : List (List Rat)} (h : Mixes m n k qs ts) : ∃ D : Nat, 0 < D ∧ D < 2 ^ (m + (n * ts.length + 1)) ∧ ∀ i, ∀ q ∈ mixc qs ts i, Cm D q := by
  obtain ⟨D, h1, h2, h3⟩ := common_all ts h.tabs
  obtain ⟨E, g1, g2, g3⟩ := h.tab.com
  refine ⟨E * D, Nat.mul_pos g1 h1, ?_, fun i q hq => ?_⟩
  · have := Nat.mul_lt_mul'' g2 h2
    rw [← Nat.pow_add] at this
    exact this
  · obtain ⟨p, hp, rfl⟩ := List.mem_map.mp hq
    have := List.of_mem_zip (a := p.1) (b := p.2) hp
    refine (g3 _ this.1).mul ?_
    rcases getD_cases p.2 i with z | z
    · exact h3 _ this.2 _ z
    · rw [z]; exact cm_int D 0
theorem Mixes.com {m n k : Nat} {qs : List Rat} {ts : List (List Rat)} (h : Mixes m n k qs ts) : ∃ D : Nat, 0 < D ∧ D < 2 ^ (m + (n * 8 + 1)) ∧ ∀ i, ∀ q ∈ mixc qs ts i, Cm D q := by
  obtain ⟨D, h1, h2, h3⟩ := h.comL
  have l8 := Nat.mul_le_mul_left n h.le8
  exact ⟨D, h1, Nat.lt_of_lt_of_le h2 (Nat.pow_le_pow_right (by decide) (by omega)), h3⟩
theorem Mixes.pos {m n k : Nat} {qs : List Rat} {ts : List (List Rat)} (h : Mixes m n k qs ts) (i : Nat) : ∀ q ∈ mixc qs ts i, 0 ≤ q := fun q hq => by
  obtain ⟨p, hp, rfl⟩ := List.mem_map.mp hq
  have := List.of_mem_zip (a := p.1) (b := p.2) hp
  refine Rat.mul_nonneg (h.tab.pos _ this.1) ?_
  rcases getD_cases p.2 i with z | z
  · exact (h.tabs _ this.2).pos _ z
  · rw [z]; decide
theorem Mixes.one {m n k : Nat} {qs : List Rat} {ts : List (List Rat)} (h : Mixes m n k qs ts) : (mix qs ts k).sum = 1 := by
  unfold mix mixc
  rw [sum_swap (fun (p : Rat × List Rat) i => p.1 * p.2.getD i 0)]
  rw [← h.tab.one]
  conv => rhs; rw [← zip_fst (qs := qs) (ns := List.replicate qs.length 0) (by simp)]
  have : ∀ (qs : List Rat) (ts : List (List Rat)), ts.length = qs.length → (∀ t ∈ ts, t.sum = 1 ∧ t.length = k) → ((qs.zip ts).map fun a => ((List.range k).map fun i => a.1 * a.2.getD i 0).sum) = (qs.zip (List.replicate qs.length 0)).map (·.1) := by
    intro qs
    induction qs with
    | nil => intro ts _ _; rfl
    | cons q qs ih =>
      intro ts hl ht
      cases ts with
      | nil => cases hl
      | cons t ts =>
        have h1 := ht t List.mem_cons_self
        simp only [List.zip_cons_cons, List.map_cons, List.length_cons, List.replicate_succ]
        rw [ih ts (by simpa using hl) fun x hx => ht x (List.mem_cons_of_mem _ hx), sum_mulL, ← h1.2, range_getD, h1.1, Rat.mul_one]
  rw [this qs ts h.len fun t ht => ⟨(h.tabs t ht).one, h.wid t ht⟩]
theorem Mixes.k8 {m n k : Nat} {qs : List Rat} {ts : List (List Rat)} (h : Mixes m n k qs ts) : 0 < k ∧ k ≤ 8 := by
  cases ts with
  | nil => have := h.len; exact absurd (List.length_eq_zero_iff.mp this.symm) h.tab.ne
  | cons t ts =>
    have h1 := h.tabs t List.mem_cons_self
    have h2 := h.wid t List.mem_cons_self
    rw [← h2]
    exact ⟨List.length_pos_iff.mpr h1.ne, h1.len⟩
theorem Mixes.res {m n k : Nat} {qs : List Rat} {ts : List (List Rat)} (h : Mixes m n k qs ts) : Tab (m + (n * 8 + 1)) (mix qs ts k) := by
  obtain ⟨D, h1, h2, h3⟩ := h.com
  have k8 := h.k8
  refine ⟨?_, ?_, ?_, h.one, D, h1, h2, ?_⟩
  · intro z
    have := congrArg List.length z
    unfold mix at this
    rw [List.length_map, List.length_range] at this
    simp at this; omega
  · unfold mix; rw [List.length_map, List.length_range]; exact k8.2
  · intro q hq
    obtain ⟨i, _, rfl⟩ := List.mem_map.mp hq
    exact sum_nonneg (h.pos i)
  · intro q hq
    obtain ⟨i, _, rfl⟩ := List.mem_map.mp hq
    exact Cm.sum (h3 i)
theorem Mixes.sb {m n k : Nat} {qs : List Rat} {ts : List (List Rat)} (h : Mixes m n k qs ts) {i : Nat} (hi : i < k) : Sb (m + (n * 8 + 1)) (mixc qs ts i) := by
  obtain ⟨D, h1, h2, h3⟩ := h.com
  refine ⟨h.pos i, ?_, D, h1, h2, h3 i⟩
  have : (mixc qs ts i).sum ∈ mix qs ts k := List.mem_map.mpr ⟨i, List.mem_range.mpr hi, rfl⟩
  have := h.res.le1 this
  have : (1 : Rat) < ((2 ^ 40 : Nat) : Rat) := Rat.lt_iff_le_and_ne.mpr ⟨by decide, by decide⟩
  grind
theorem sum_append (l m : List Rat) : (l ++ m).sum = l.sum + m.sum := by
  induction l with
  | nil => exact (Rat.zero_add _).symm
  | cons a l ih => rw [List.cons_append, List.sum_cons, List.sum_cons, ih, Rat.add_assoc]
theorem num_pos {q : Rat} (h : 0 < q) : 0 < q.num := by
  have h1 := Rat.num_nonneg.mpr (Rat.le_of_lt h)
  have h2 : q.num ≠ 0 := by
    intro e
    have := Rat.num_eq_zero.mp e
    subst this
    exact absurd h (by decide)
  omega
structure Parts (n : Nat) (b : Int) (ps : List Int) : Prop where
  len : ps.length = n
  pos : ∀ p ∈ ps, 0 ≤ p
  le : ∀ p ∈ ps, p ≤ b
  ex : ∃ p ∈ ps, 0 < p
theorem isum_le {b : Int} : ∀ (ps : List Int), (∀ p ∈ ps, p ≤ b) → ps.sum ≤ ps.length * b
  | [], _ => by simp
  | p :: ps, h => by
    have h1 := h p List.mem_cons_self
    have h2 := isum_le ps fun x hx => h x (List.mem_cons_of_mem _ hx)
    rw [List.sum_cons, List.length_cons, Int.natCast_add, Int.add_mul]
    omega
theorem isum_pos : ∀ (ps : List Int), (∀ p ∈ ps, 0 ≤ p) → 0 ≤ ps.sum ∧ ∀ q ∈ ps, q ≤ ps.sum
  | [], _ => by simp
  | p :: ps, h => by
    have h1 := h p List.mem_cons_self
    obtain ⟨h2, h3⟩ := isum_pos ps fun x hx => h x (List.mem_cons_of_mem _ hx)
    rw [List.sum_cons]
    refine ⟨by omega, fun q hq => ?_⟩
    rcases List.mem_cons.mp hq with rfl | hq
    · omega
    · have := h3 q hq; omega
theorem rsum_map (W : Int) : ∀ (ps : List Int), (ps.map fun p => Rat.divInt p W).sum = (ps.sum : Rat) / (W : Rat)
  | [] => by
    show (0 : Rat) = ((0 : Int) : Rat) / (W : Rat)
    rw [Rat.div_def]
    exact (Rat.zero_mul _).symm
  | p :: ps => by
    rw [List.map_cons, List.sum_cons, List.sum_cons, rsum_map W ps, Rat.divInt_eq_div, Rat.intCast_add, Rat.div_def, Rat.div_def, Rat.div_def, Rat.add_mul]
def ptab (ps : List Int) : List Rat := ps.map fun p => Rat.divInt p ps.sum
theorem Parts.sum {n : Nat} {b : Int} {ps : List Int} (h : Parts n b ps) : 0 < ps.sum ∧ ps.sum ≤ n * b := by
  obtain ⟨q, hq, h0⟩ := h.ex
  have h1 := (isum_pos ps h.pos).2 q hq
  have h2 := isum_le ps h.le
  rw [h.len] at h2
  exact ⟨by omega, h2⟩
theorem Parts.tab {n : Nat} {b : Int} {ps : List Int} (h : Parts n b ps) (hn : n ≤ 8) (hb : b ≤ 1000000000100) : Tab 44 (ptab ps) := by
  obtain ⟨h0, h1⟩ := h.sum
  obtain ⟨q, hq, _⟩ := h.ex
  have hW : ((ps.sum : Int) : Rat) ≠ 0 := by
    intro e
    have := Rat.intCast_inj.mp (show ((ps.sum : Int) : Rat) = ((0 : Int) : Rat) from e)
    omega
  have hWp : (0 : Rat) < ((ps.sum : Int) : Rat) := Rat.intCast_pos.mpr h0
  refine ⟨?_, ?_, ?_, ?_, ps.sum.toNat, by omega, ?_, ?_⟩
  · intro e
    have := congrArg List.length e
    unfold ptab at this
    rw [List.length_map] at this
    rw [List.length_eq_zero_iff.mp this] at hq
    cases hq
  · unfold ptab; rw [List.length_map, h.len]; exact hn
  · intro x hx
    obtain ⟨p, hp, rfl⟩ := List.mem_map.mp hx
    rw [Rat.divInt_eq_div, Rat.div_def]
    exact Rat.mul_nonneg (by have := h.pos p hp; exact_mod_cast this) (Rat.le_of_lt (Rat.inv_pos.mpr hWp))
  · unfold ptab
    rw [rsum_map]
    exact div_self' hW
  · have hb0 : 0 ≤ b := by have := h.le q hq; have := h.pos q hq; omega
    have : (n : Int) * b ≤ 8 * 1000000000100 := Int.mul_le_mul (by omega) hb hb0 (by decide)
    omega
  · intro x hx
    obtain ⟨p, hp, rfl⟩ := List.mem_map.mp hx
    refine ⟨p, ?_⟩
    have e : ((ps.sum.toNat : Nat) : Rat) = ((ps.sum : Int) : Rat) := by
      rw [← Rat.intCast_natCast]
      congr 1
      omega
    rw [e, Rat.divInt_eq_div, Rat.div_def, Rat.mul_assoc, Rat.inv_mul_cancel _ hW, Rat.mul_one]
end MR
namespace MR
def rs (k : Nat) (F : Nat → Rat) : Rat := ((List.range k).map F).sum
theorem rs_succ (k : Nat) (F : Nat → Rat) : rs (k + 1) F = rs k F + F k := by
  unfold rs
  rw [List.range_succ, List.map_append, sum_append]
  show _ = _
  rw [List.map_cons, List.map_nil, List.sum_cons]
  show _ + (F k + 0) = _
  rw [Rat.add_zero]
theorem rs_congr {k : Nat} {F G : Nat → Rat} (h : ∀ i, i < k → F i = G i) : rs k F = rs k G := by
  unfold rs
  congr 1
  exact List.map_congr_left fun i hi => h i (List.mem_range.mp hi)
theorem rs_add (k : Nat) (F G : Nat → Rat) : rs k (fun i => F i + G i) = rs k F + rs k G := sum_add F G _
theorem rs_const0 (k : Nat) : rs k (fun _ => 0) = 0 := sum_zero _
theorem as_range (qs : List Rat) : (List.range qs.length).map (fun i => qs.getD i 0) = qs := range_getD qs
theorem sum_rs (qs : List Rat) : qs.sum = rs qs.length fun i => qs.getD i 0 := by
  unfold rs; rw [as_range]
theorem ext_getD {qs rs : List Rat} (hl : qs.length = rs.length) (h : ∀ i, i < qs.length → qs.getD i 0 = rs.getD i 0) : qs = rs := by
  rw [← as_range qs, ← as_range rs, ← hl]
  exact List.map_congr_left fun i hi => h i (List.mem_range.mp hi)
theorem zipR {α : Type} (d : α) (qs : List Rat) (ts : List α) (h : ts.length = qs.length) : qs.zip ts = (List.range qs.length).map fun i => (qs.getD i 0, ts.getD i d) := by
  have e : ts = (List.range qs.length).map fun i => ts.getD i d := by
    apply List.ext_getElem
    · simp [h]
    · intro i h1 h2
      simp
      rw [List.getElem?_eq_getElem h1]
      rfl
  conv => lhs; rw [← as_range qs, e]
  rw [List.zip_map']
end MR
namespace MR
def rab (q : Rat) : Rat := if q < 0 then -q else q
theorem rab_nonneg (q : Rat) : 0 ≤ rab q := by unfold rab; split <;> grind
theorem rab_zero {q : Rat} : rab q = 0 ↔ q = 0 := by unfold rab; split <;> grind
theorem rab_le {q x : Rat} (h1 : q ≤ x) (h2 : -q ≤ x) : rab q ≤ x := by unfold rab; split <;> grind
theorem rab_mul {c q : Rat} (h : 0 ≤ c) : rab (c * q) = c * rab q := by
  unfold rab
  by_cases hq : q < 0
  · rw [if_pos hq]
    by_cases hc : c = 0
    · subst hc; simp
    · have : c * q < 0 := by
        have h1 : 0 < c := by grind
        have h2 : 0 < -q := by grind
        have := Rat.mul_pos h1 h2
        grind
      rw [if_pos this]; grind
  · rw [if_neg hq]
    have : 0 ≤ c * q := Rat.mul_nonneg h (by grind)
    rw [if_neg (by grind)]
theorem sub_eq (p q : Rat) : p - q = Rat.divInt (p.num * (q.den : Int) - q.num * (p.den : Int)) ((p.den : Int) * (q.den : Int)) := by
  have e : p - q = p + (-q) := by grind
  rw [e, add_eq, Rat.neg_num, Rat.neg_den]
  congr 1
  rw [Int.neg_mul]
  omega
theorem rab_divInt (a b : Int) (hb : 0 < b) : Rat.divInt (if a < 0 then -a else a) b = rab (Rat.divInt a b) := by
  have hbr : (0 : Rat) < (b : Rat) := Rat.intCast_pos.mpr hb
  have hinv := Rat.inv_pos.mpr hbr
  unfold rab
  rw [Rat.divInt_eq_div, Rat.divInt_eq_div, Rat.div_def, Rat.div_def]
  by_cases ha : a < 0
  · have h1 : (a : Rat) < 0 := by exact_mod_cast ha
    have : (a : Rat) * (b : Rat)⁻¹ < 0 := by
      have := Rat.mul_pos (show 0 < -(a : Rat) by grind) hinv
      grind
    rw [if_pos ha, if_pos this, Rat.intCast_neg]
    grind
  · have h1 : (0 : Rat) ≤ (a : Rat) := by exact_mod_cast (show 0 ≤ a by omega)
    have := Rat.mul_nonneg h1 (Rat.le_of_lt hinv)
    rw [if_neg ha, if_neg (by grind)]
theorem lt_cross (p q : Rat) : (q.num * (p.den : Int) < p.num * (q.den : Int)) ↔ q < p := (Rat.lt_iff q p).symm
def dls (a b : List Rat) : List Rat := (a.zip b).map fun p => rab (p.1 - p.2)
def d2 (a b : List Rat) : Rat := rs a.length fun i => rab (a.getD i 0 - b.getD i 0)
theorem dls_sum {a b : List Rat} (h : b.length = a.length) : (dls a b).sum = d2 a b := by
  unfold dls d2
  rw [zipR 0 a b h, List.map_map]
  rfl
theorem rs_le {k : Nat} {F G : Nat → Rat} (h : ∀ i, i < k → F i ≤ G i) : rs k F ≤ rs k G := by
  induction k with
  | zero => exact Rat.le_refl
  | succ k ih =>
    rw [rs_succ, rs_succ]
    have h1 := ih fun i hi => h i (by omega)
    have h2 := h k (by omega)
    grind
theorem rs_nonneg {k : Nat} {F : Nat → Rat} (h : ∀ i, i < k → 0 ≤ F i) : 0 ≤ rs k F := by
  have := rs_le (F := fun _ => 0) (G := F) h
  rw [rs_const0] at this
  exact this
theorem rs_eq0 {k : Nat} {F : Nat → Rat} (h : ∀ i, i < k → 0 ≤ F i) (h0 : rs k F = 0) : ∀ i, i < k → F i = 0 := by
  induction k with
  | zero => intro i hi; omega
  | succ k ih =>
    rw [rs_succ] at h0
    have h1 := rs_nonneg fun i (hi : i < k) => h i (by omega)
    have h2 := h k (by omega)
    intro i hi
    by_cases e : i = k
    · subst e; grind
    · exact ih (fun j hj => h j (by omega)) (by grind) i (by omega)
theorem d2_nonneg (a b : List Rat) : 0 ≤ d2 a b := rs_nonneg fun i _ => rab_nonneg _
theorem d2_eq {a b : List Rat} (h : b.length = a.length) : d2 a b = 0 ↔ a = b := by
  constructor
  · intro h0
    have := rs_eq0 (fun i _ => rab_nonneg _) h0
    refine ext_getD h.symm fun i hi => ?_
    have := rab_zero.mp (this i hi)
    grind
  · rintro rfl
    have : d2 a a = rs a.length fun _ => 0 := rs_congr fun i _ => rab_zero.mpr (by grind)
    rw [this, rs_const0]
theorem getD_nonneg {n : Nat} {a : List Rat} (h : Tab n a) (i : Nat) : 0 ≤ a.getD i 0 := by
  rcases getD_cases a i with z | z
  · exact h.pos _ z
  · rw [z]; decide
theorem d2_le2 {m n : Nat} {a b : List Rat} (h : b.length = a.length) (ha : Tab m a) (hb : Tab n b) : d2 a b ≤ 2 := by
  have h1 : d2 a b ≤ rs a.length fun i => a.getD i 0 + b.getD i 0 := rs_le fun i _ => by
    have := getD_nonneg ha i
    have := getD_nonneg hb i
    exact rab_le (by grind) (by grind)
  rw [rs_add, ← sum_rs, ← h, ← sum_rs, ha.one, hb.one] at h1
  grind
def more (a b : List Rat) : List Nat := (List.range a.length).filter fun i => decide (b.getD i 0 < a.getD i 0)
theorem Cm.rab {D : Nat} {q : Rat} (h : Cm D q) : Cm D (MR.rab q) := by
  unfold MR.rab
  split
  · obtain ⟨k, hk⟩ := h
    exact ⟨-k, by rw [Rat.intCast_neg]; grind⟩
  · exact h
theorem dls_com {m n : Nat} {a b : List Rat} (ha : Tab m a) (hb : Tab n b) : ∃ D : Nat, 0 < D ∧ D < 2 ^ (m + n) ∧ ∀ q ∈ dls a b, Cm D q := by
  obtain ⟨D, h1, h2, h3⟩ := ha.com
  obtain ⟨E, g1, g2, g3⟩ := hb.com
  refine ⟨D * E, Nat.mul_pos h1 g1, by rw [Nat.pow_add]; exact Nat.mul_lt_mul'' h2 g2, fun q hq => ?_⟩
  obtain ⟨p, hp, rfl⟩ := List.mem_map.mp hq
  have := List.of_mem_zip (a := p.1) (b := p.2) hp
  exact (((h3 _ this.1).dvd ⟨E, rfl⟩).sub ((g3 _ this.2).dvd ⟨D, Nat.mul_comm _ _⟩)).rab
theorem two_lt : (2 : Rat) < ((2 ^ 40 : Nat) : Rat) := Rat.lt_iff_le_and_ne.mpr ⟨by decide, by decide⟩
theorem dls_sb {m n : Nat} {a b : List Rat} (hl : b.length = a.length) (ha : Tab m a) (hb : Tab n b) : Sb (m + n) (dls a b) := by
  refine ⟨fun q hq => ?_, ?_, dls_com ha hb⟩
  · obtain ⟨p, hp, rfl⟩ := List.mem_map.mp hq
    exact rab_nonneg _
  · rw [dls_sum hl]
    have h1 := d2_le2 hl ha hb
    have h2 := two_lt
    grind
theorem Cm.half {D : Nat} {q : Rat} (h : Cm D q) : Cm (D * 2) (q / 2) := by
  obtain ⟨k, hk⟩ := h
  exact ⟨k, by rw [Rat.natCast_mul, ← hk]; grind⟩
theorem dist_sm {m n : Nat} {a b : List Rat} (hl : b.length = a.length) (ha : Tab m a) (hb : Tab n b) : Sm (m + n + 2) (d2 a b / 2) := by
  obtain ⟨D, h1, h2, h3⟩ := dls_com ha hb
  have hc : Cm D (d2 a b) := by rw [← dls_sum hl]; exact Cm.sum h3
  have h4 := d2_le2 hl ha hb
  have h5 := d2_nonneg a b
  have e : D * 2 < 2 ^ (m + n + 1) := by rw [Nat.pow_succ]; omega
  have h6 : (1 : Rat) < ((2 ^ 1 : Nat) : Rat) := Rat.lt_iff_le_and_ne.mpr ⟨by decide, by decide⟩
  exact (Cm.half hc).sm (m := 1) (by omega) e (by grind) (by grind)
end MR
namespace MR
def rst (a b : Nat) : Nat → Nat
  | 0 => a % b
  | j + 1 => 2 * rst a b j % b
def dgt (a b j : Nat) : Nat := 2 * rst a b j / b
structure Ends (f : Nat → Nat) (m s : Nat) : Prop where
  lt : s < m
  eq : f m = f s
  inj : ∀ i j, i < j → j < m → f i ≠ f j
section
variable {a b : Nat}
theorem rst_lt (hb : 0 < b) : ∀ j, rst a b j < b
  | 0 => Nat.mod_lt _ hb
  | _ + 1 => Nat.mod_lt _ hb
theorem dgt_eq (j : Nat) : 2 * rst a b j = b * dgt a b j + rst a b (j + 1) := (Nat.div_add_mod _ _).symm
theorem dgt_lt (hb : 0 < b) (j : Nat) : dgt a b j < 2 := by
  unfold dgt
  have := rst_lt (a := a) hb j
  exact Nat.div_lt_of_lt_mul (by omega)
def digs (a b j n : Nat) : List Nat := (List.range n).map fun i => dgt a b (j + i)
theorem rst_step {i j : Nat} (h : rst a b i = rst a b j) : ∀ n, rst a b (i + n) = rst a b (j + n)
  | 0 => h
  | n + 1 => by
    show 2 * rst a b (i + n) % b = 2 * rst a b (j + n) % b
    rw [rst_step h n]
theorem per {m s : Nat} (h : Ends (rst a b) m s) (n : Nat) : rst a b (s + n + (m - s)) = rst a b (s + n) := by
  have := rst_step h.eq n
  have := h.lt
  rw [show s + n + (m - s) = m + n by omega]
  assumption
theorem perN {m s : Nat} (h : Ends (rst a b) m s) (n : Nat) : ∀ k, rst a b (s + n + (m - s) * k) = rst a b (s + n)
  | 0 => by simp
  | k + 1 => by
    rw [← perN h n k, Nat.add_assoc s n ((m - s) * k), ← per h (n + (m - s) * k), Nat.mul_succ]
    congr 1
    omega
theorem rst_zero {j : Nat} (h : rst a b j = 0) : ∀ n, rst a b (j + n) = 0
  | 0 => h
  | n + 1 => by
    show 2 * rst a b (j + n) % b = 0
    rw [rst_zero h n]
    simp
theorem nz {m s : Nat} (h : Ends (rst a b) m s) (h0 : rst a b s ≠ 0) (j : Nat) : rst a b j ≠ 0 := fun e => by
  have h1 := perN h 0 j
  have h2 : j ≤ (m - s) * j := Nat.le_mul_of_pos_left _ (by have := h.lt; omega)
  have h3 := rst_zero e (s + 0 + (m - s) * j - j)
  rw [show j + (s + 0 + (m - s) * j - j) = s + 0 + (m - s) * j by omega, h1] at h3
  exact h0 h3
end
structure Fg (a b W : Nat) (A C : List Nat) : Prop where
  pos : 0 < b
  whole : W = a / b
  ends : ∃ m s, Ends (rst a b) m s ∧ A = digs a b 0 s ∧ C = if rst a b s = 0 then [] else digs a b s (m - s)
theorem Fg.scale {a b W : Nat} {A C : List Nat} {g : Nat} (hg : 0 < g) : Fg (g * a) (g * b) W A C ↔ Fg a b W A C := by
  have hr : ∀ j, rst (g * a) (g * b) j = g * rst a b j := fun j => by
    induction j with
    | zero => exact Nat.mul_mod_mul_left ..
    | succ j ih => show 2 * _ % _ = _; rw [ih, ← Nat.mul_assoc, Nat.mul_comm 2 g, Nat.mul_assoc, Nat.mul_mod_mul_left]; rfl
  have hd : ∀ j, dgt (g * a) (g * b) j = dgt a b j := fun j => by
    unfold dgt; rw [hr, ← Nat.mul_assoc, Nat.mul_comm 2 g, Nat.mul_assoc, Nat.mul_div_mul_left _ _ hg]
  have hD : ∀ j n, digs (g * a) (g * b) j n = digs a b j n := fun j n => by unfold digs; exact List.map_congr_left fun i _ => hd _
  have hz : ∀ j, (rst (g * a) (g * b) j = 0) ↔ rst a b j = 0 := fun j => by
    rw [hr, Nat.mul_eq_zero]; omega
  have hE : ∀ m s, Ends (rst (g * a) (g * b)) m s ↔ Ends (rst a b) m s := fun m s => by
    constructor
    · intro e
      refine ⟨e.lt, ?_, fun i j h1 h2 q => e.inj i j h1 h2 (by rw [hr, hr, q])⟩
      have := e.eq
      rw [hr, hr] at this
      exact Nat.eq_of_mul_eq_mul_left hg this
    · intro e
      refine ⟨e.lt, by rw [hr, hr, e.eq], fun i j h1 h2 q => e.inj i j h1 h2 ?_⟩
      rw [hr, hr] at q
      exact Nat.eq_of_mul_eq_mul_left hg q
  constructor
  · rintro ⟨hb, w, m, s, e, ea, ec⟩
    refine ⟨Nat.pos_of_mul_pos_left hb, by rw [w, Nat.mul_div_mul_left _ _ hg], m, s, (hE m s).mp e, by rw [ea, hD], ?_⟩
    rw [ec, hD]
    by_cases c : rst a b s = 0
    · rw [if_pos c, if_pos ((hz s).mpr c)]
    · rw [if_neg c, if_neg fun q => c ((hz s).mp q)]
  · rintro ⟨hb, w, m, s, e, ea, ec⟩
    refine ⟨Nat.mul_pos hg hb, by rw [w, Nat.mul_div_mul_left _ _ hg], m, s, (hE m s).mpr e, by rw [ea, hD], ?_⟩
    rw [ec, hD]
    by_cases c : rst a b s = 0
    · rw [if_pos c, if_pos ((hz s).mpr c)]
    · rw [if_neg c, if_neg fun q => c ((hz s).mp q)]
end MR
namespace MR
section
variable {a b W : Nat} {A C : List Nat}
theorem Fg.turn (h : Fg a b W A C) (h1 : a < b) (hC : C ≠ []) : Fg (b - a) b 0 (A.map fun d => 1 - d) (C.map fun d => 1 - d) := by
  obtain ⟨hb, rfl, m, s, e, rfl, ec⟩ := h
  have hlt := e.lt
  have h0 : rst a b s ≠ 0 := fun z => by rw [if_pos z] at ec; exact hC ec
  rw [if_neg h0] at ec
  have hz := nz e h0
  have ha : rst a b 0 = a := Nat.mod_eq_of_lt h1
  have ha0 := hz 0
  rw [ha] at ha0
  have hstep : ∀ j, 2 * (b - rst a b j) = b * (1 - dgt a b j) + (b - rst a b (j + 1)) := fun j => by
    have e2 := dgt_eq (a := a) (b := b) j
    have l1 := rst_lt (a := a) hb j
    have l2 := rst_lt (a := a) hb (j + 1)
    have l3 := dgt_lt (a := a) hb j
    have : dgt a b j = 0 ∨ dgt a b j = 1 := by omega
    rcases this with c | c <;> rw [c] at e2 ⊢ <;> omega
  have hr : ∀ j, rst (b - a) b j = b - rst a b j := fun j => by
    induction j with
    | zero => rw [ha]; exact Nat.mod_eq_of_lt (by omega)
    | succ j ih =>
      show 2 * _ % b = _
      rw [ih, hstep, Nat.mul_add_mod, Nat.mod_eq_of_lt]
      have := hz (j + 1)
      omega
  have hd : ∀ j, dgt (b - a) b j = 1 - dgt a b j := fun j => by
    unfold dgt
    rw [hr, hstep, Nat.mul_add_div hb, Nat.div_eq_of_lt]
    · rfl
    · have := hz (j + 1)
      omega
  have hD : ∀ j n, digs (b - a) b j n = (digs a b j n).map fun d => 1 - d := fun j n => by
    unfold digs
    rw [List.map_map]
    exact List.map_congr_left fun i _ => hd _
  refine ⟨hb, (Nat.div_eq_of_lt (by omega)).symm, m, s, ⟨hlt, by rw [hr, hr, e.eq], fun i j q1 q2 q => ?_⟩, (hD _ _).symm, ?_⟩
  · rw [hr, hr] at q
    have l1 := rst_lt (a := a) hb i
    have l2 := rst_lt (a := a) hb j
    exact e.inj i j q1 q2 (by omega)
  · rw [hr, if_neg (by have := rst_lt (a := a) hb s; omega), hD, ec]
end
end MR
namespace MR
def FgQ (q : Rat) (W : Nat) (A C : List Nat) : Prop := Fg q.num.toNat q.den W A C
theorem fgq {x y W : Nat} {A C : List Nat} (hy : 0 < y) : FgQ (Rat.divInt (x : Int) (y : Int)) W A C ↔ Fg x y W A C := by
  obtain ⟨e1, e2⟩ := divInt_parts (x : Int) (y : Int) (by omega)
  rw [Int.natAbs_natCast, Int.natAbs_natCast] at e1 e2
  have hg : 0 < Nat.gcd x y := Nat.gcd_pos_of_pos_right _ hy
  obtain ⟨u, hu⟩ := Nat.gcd_dvd_left x y
  obtain ⟨v, hv⟩ := Nat.gcd_dvd_right x y
  generalize Nat.gcd x y = g at *
  have e3 : ((Rat.divInt (x : Int) (y : Int)).num).toNat = u := by
    rw [e1, hu, ← Int.natCast_ediv, Int.toNat_natCast, Nat.mul_div_cancel_left _ hg]
  have e4 : (Rat.divInt (x : Int) (y : Int)).den = v := by
    have : (((Rat.divInt (x : Int) (y : Int)).den : Nat) : Int) = (v : Nat) := by
      rw [e2, hv, ← Int.natCast_ediv, Nat.mul_div_cancel_left _ hg]
    omega
  unfold FgQ
  rw [e3, e4]
  conv => rhs; rw [hu, hv]
  exact (Fg.scale hg).symm
theorem one_sub_fr {q : Rat} (h0 : 0 ≤ q) (h1 : q.num.toNat < q.den) : ((1 : Int) : Rat) - q = Rat.divInt ((q.den - q.num.toNat : Nat) : Int) (q.den : Int) := by
  have hn : q.num = ((q.num.toNat : Nat) : Int) := (Int.toNat_of_nonneg (Rat.num_nonneg.mpr h0)).symm
  have hd := q.den_pos
  conv => lhs; rw [← Rat.num_divInt_den q, hn]
  rw [show ((1 : Int) : Rat) = Rat.divInt 1 1 from rfl, Rat.divInt_sub_divInt _ _ (by omega) (by omega), Rat.divInt_eq_divInt_iff (by omega) (by omega), Int.natCast_sub (by omega)]
  grind
theorem FgQ.turn {q : Rat} {A C : List Nat} (h : FgQ q 0 A C) (h0 : 0 ≤ q) (hC : C ≠ []) : FgQ (((1 : Int) : Rat) - q) 0 (A.map fun d => 1 - d) (C.map fun d => 1 - d) := by
  have h1 : q.num.toNat < q.den := by
    have := h.whole
    have hd := q.den_pos
    rcases Nat.lt_or_ge q.num.toNat q.den with c | c
    · exact c
    · have := Nat.div_pos c hd
      omega
  rw [one_sub_fr h0 h1, fgq q.den_pos]
  exact Fg.turn h h1 hC
end MR
namespace MR
inductive Sd where
  | toss (a b : Nat) | out (i : Nat)
  deriving DecidableEq, Inhabited
abbrev Mch := List Sd
def Sd.ok (n many : Nat) : Sd → Prop
  | .toss a b => a < many ∧ b < many
  | .out i => i < n
def at' (S : Mch) (s : Nat) : Sd := S.getD s (.out 0)
def fols : Sd → List Nat | .toss a b => [a, b] | .out _ => []
def endN (S : Mch) (i : Nat) : Nat → Nat → Nat
  | 0, s => match at' S s with | .out j => if j = i then 1 else 0 | _ => 0
  | k + 1, s => match at' S s with | .toss a b => endN S i k a + endN S i k b | _ => 0
abbrev Rows := List (Nat × Nat)
def bmp (r : Rows) (a m : Nat) : Rows := if (r.any fun p => p.1 == a) = true then r.map fun p => if p.1 = a then (p.1, p.2 + m) else p else r ++ [(a, m)]
def ledOn (S : Mch) (r : Rows) : Rows := r.foldl (fun f p => (fols (at' S p.1)).foldl (fun f a => bmp f a p.2) f) []
def rowsAt (S : Mch) : Nat → Rows
  | 0 => [(0, 1)]
  | k + 1 => ledOn S (rowsAt S k)
def Sd.map (f : Nat → Nat) : Sd → Sd
  | .toss a b => .toss (f a) (f b)
  | .out i => .out i
end MR
namespace MR
end MR
namespace L2
open PySem PySem.Spec PyProof.Rows
def hashX (k : List Int) : Int := reduceHash (Builtin.Tuple.tupleHashOf (k.map hashInt))
def entX (x : List Int × Addr × Value) : DictEntry := ⟨hashX x.1, .ref x.2.1, x.2.2⟩
abbrev KX : List (List Int × Addr × V) → List (List Int × Addr × Value) → Prop := Paired fun p q => p.1 = q.1 ∧ p.2.1 = q.2.1 ∧ RelV p.2.2 q.2.2
def DtR (h : Heap) (a : Addr) (ks : List (List Int × Addr × V)) : Prop :=
  ks.length ≤ sizeLine ∧ (a == sysModules) = false ∧ ∃ xs, KX ks xs ∧ ∃ o es ep, h.get? a = some o ∧ o.ExactDict ∧ o.data = .dict es ep ∧ es.toList = xs.map entX ∧ (xs.map (·.1)).Nodup
abbrev DtO (a : Addr) (ks : List (List Int × Addr × V)) : HO := .ext fun h => DtR h a ks
def valX (ks : List (List Int × Addr × V)) (k : List Int) : Option V := (ks.find? fun p => decide (p.1 = k)).map (·.2.2)
def putX (ks : List (List Int × Addr × V)) (k : List Int) (b : Addr) (v : V) : List (List Int × Addr × V) :=
  if (valX ks k).isSome then ks.map (fun p => if p.1 = k then (p.1, p.2.1, v) else p) else ks ++ [(k, b, v)]
theorem valX_pos {p : List Int × Addr × V} {ps : List (List Int × Addr × V)} {k : List Int} (e : p.1 = k) : valX (p :: ps) k = some p.2.2 := by simp [valX, List.find?_cons, e]
theorem valX_neg {p : List Int × Addr × V} {ps : List (List Int × Addr × V)} {k : List Int} (e : ¬ p.1 = k) : valX (p :: ps) k = valX ps k := by simp [valX, List.find?_cons, e]
theorem KX.val {ks : List (List Int × Addr × V)} {xs : List (List Int × Addr × Value)} (r : KX ks xs) (k : List Int) : RelO (valX ks k) ((atKey xs k).map (·.2)) := by
  induction r with
  | nil => exact True.intro
  | @cons p q ps qs h t ih =>
    obtain ⟨h1, _, h2⟩ := h
    by_cases e : p.1 = k
    · have e' : q.1 = k := h1.symm.trans e
      have b : atKey (q :: qs) k = some q.2 := by simp [atKey, List.find?_cons, e']
      rw [valX_pos e, b]; exact h2
    · have e' : ¬ q.1 = k := fun z => e (h1.trans z)
      have b : atKey (q :: qs) k = atKey qs k := by simp [atKey, List.find?_cons, e']
      rw [valX_neg e, b]; exact ih
theorem KX.repl {ks : List (List Int × Addr × V)} {xs : List (List Int × Addr × Value)} (r : KX ks xs) (k : List Int) {y : V} {u : Value} (ry : RelV y u) :
    KX (ks.map fun p => if p.1 = k then (p.1, p.2.1, y) else p) (xs.map (putAt k u)) := by
  induction r with
  | nil => exact .nil
  | @cons p q ps qs h t ih =>
    rw [List.map_cons, List.map_cons]
    refine .cons ?_ ih
    obtain ⟨h1, h2, h3⟩ := h
    unfold putAt
    by_cases e : p.1 = k
    · rw [if_pos e, if_pos (h1.symm.trans e)]; exact ⟨h1, h2, ry⟩
    · rw [if_neg e, if_neg (fun z => e (h1.trans z))]; exact ⟨h1, h2, h3⟩
theorem KX.put {ks : List (List Int × Addr × V)} {xs : List (List Int × Addr × Value)} (r : KX ks xs) (k : List Int) {b : Addr} {y : V} {u : Value} (ry : RelV y u) :
    KX (putX ks k b y) (storedH xs k b u) := by
  have e : (valX ks k).isSome = (atKey xs k).isSome := by rw [(r.val k).isSome_eq, Option.isSome_map]
  unfold putX storedH
  rw [e]
  by_cases q : (atKey xs k).isSome = true
  · rw [if_pos q, if_pos q]; exact r.repl k ry
  · rw [if_neg q, if_neg q]; exact Paired.snoc r ⟨rfl, rfl, ry⟩
section
variable {X : Cx} {pins : List (Addr × Obj)} {σ : St} {H : Hp} {s : Shared} {a b : Addr} {y v d : V} {u r : Value} {A : Around} {E : Value → Shared → Prop} {ks : List (List Int × Addr × V)} {k : List Int}
theorem KX.mem {ks : List (List Int × Addr × V)} {xs : List (List Int × Addr × Value)} (r : KX ks xs) : ∀ x ∈ xs, ∃ p ∈ ks, p.1 = x.1 ∧ p.2.1 = x.2.1 := by
  induction r with
  | nil => intro x hx; exact nomatch hx
  | @cons p q ps qs h t ih =>
    intro x hx
    rcases List.mem_cons.mp hx with rfl | hx
    · exact ⟨p, List.mem_cons_self, h.1, h.2.1⟩
    · obtain ⟨z, z1, z2⟩ := ih x hx
      exact ⟨z, List.mem_cons_of_mem _ z1, z2⟩
end
section
variable {X : Cx} {o i e f value : Expr} {pos pos' tpos apos cpos : Pos} {td ty tv tx : TE}
end
section
variable {X : Cx} {pins : List (Addr × Obj)} {σ : St} {H : Hp} {s : Shared} {d : Addr} {o : Obj} {ks : List (List Int × Addr × V)}
end
section
variable {P : Program} {w : World} {K : PySem.W.Frag} {tg : Expr} {d : Addr} {o : Obj} {es : Array DictEntry} {ep : Nat}
end
section
variable {X : Cx} {tg e : Expr} {td : TE}
end
end L2
namespace Fx
open PySem PySem.Spec PyProof.Rows L2
inductive PV where
  | non | bl (b : Bool) | int (i : Int) | str (x : Str) | ty (n : String)
  | tup (xs : List PV) | lst (xs : List PV) | kl (xs : List PV) | mr (n : Nat)
inductive MO where
  | lst (xs : List PV) | dk (kvs : List (Key × PV)) | fd (o : Obj) (ws : List (Key × V)) (kvs : List (Key × PV))
  | tk (kvs : List (List Int × PV)) | ft (o : Obj) (ks : List (List Int × Addr × V)) (kvs : List (List Int × PV))
abbrev Store := List MO
abbrev PEnv := List (Option PV)
structure Wd where
  am : List Addr
  ban : List Addr
def hp0 : Hp := fun _ => none
section
variable (K : PySem.W.Frag) (d : Wd) (H : Hp)
def TupAt (a : Addr) (vs : List V) : Prop := (Rd H a (.tup vs) ∧ a ∉ d.am) ∨ SqT K hp0 a vs
def LstAt (a : Addr) (vs : List V) : Prop := H a = some (.lst vs) ∧ a ∉ d.am ∧ a ∉ d.ban
def KlAt (a : Addr) (vs : List V) : Prop := (Rd H a (.lst vs) ∧ a ∉ d.am ∧ a ∉ d.ban) ∨ SqL K hp0 a vs
mutual
inductive RV : PV → V → Prop
  | non : RV .non .non
  | bl (b : Bool) : RV (.bl b) (.bl b)
  | int (i : Int) : RV (.int i) (.int i)
  | str (x : Str) : RV (.str x) (.str x)
  | ty (n : String) : RV (.ty n) (.ty n)
  | tup {xs : List PV} {a : Addr} {vs : List V} : TupAt K d H a vs → RVs xs vs → RV (.tup xs) (.ref a)
  | lst {xs : List PV} {a : Addr} {vs : List V} : LstAt d H a vs → RVs xs vs → RV (.lst xs) (.ref a)
  | kl {xs : List PV} {a : Addr} {vs : List V} : KlAt K d H a vs → RVs xs vs → RV (.kl xs) (.ref a)
  | mr {n : Nat} {a : Addr} : d.am[n]? = some a → RV (.mr n) (.ref a)
inductive RVs : List PV → List V → Prop
  | nil : RVs [] []
  | cons {x : PV} {v : V} {xs : List PV} {vs : List V} : RV x v → RVs xs vs → RVs (x :: xs) (v :: vs)
end
def MOK (a : Addr) : MO → Prop
  | .lst xs => ∃ vs, H a = some (.lst vs) ∧ RVs K d H xs vs
  | .dk kvs => ∃ vs, H a = some (.dK vs) ∧ vs.map (·.1) = kvs.map (·.1) ∧ RVs K d H (kvs.map (·.2)) (vs.map (·.2))
  | .fd o vs kvs => H a = some (.frz o (.dK vs)) ∧ vs.map (·.1) = kvs.map (·.1) ∧ RVs K d H (kvs.map (·.2)) (vs.map (·.2))
  | .tk kvs => ∃ ks, H a = some (DtO a ks) ∧ ks.map (·.1) = kvs.map (·.1) ∧ RVs K d H (kvs.map fun kv => .tup (kv.1.map .int)) (ks.map fun p => .ref p.2.1) ∧ RVs K d H (kvs.map (·.2)) (ks.map (·.2.2))
  | .ft o ks kvs => H a = some (.frz o (DtO a ks)) ∧ ks.map (·.1) = kvs.map (·.1) ∧ RVs K d H (kvs.map fun kv => .tup (kv.1.map .int)) (ks.map fun p => .ref p.2.1) ∧ RVs K d H (kvs.map (·.2)) (ks.map (·.2.2))
structure WOk (μ : Store) : Prop where
  len : d.am.length = μ.length
  nd : d.am.Nodup
  ob : ∀ (i : Nat) (a : Addr) (m : MO), d.am[i]? = some a → μ[i]? = some m → MOK K d H a m
  ban : ∀ b ∈ d.ban, H b ≠ none ∧ b ∉ d.am
def REnv (ρ : PEnv) (σ : L2.St) : Prop := ρ.length = σ.length ∧ ∀ (i : Nat) x, ρ[i]? = some (some x) → ∃ v, σ[i]? = some (some v) ∧ RV K d H x v
end
structure Ext (d : Wd) (H : Hp) (d' : Wd) (H' : Hp) : Prop where
  am : ∃ ex, d'.am = d.am ++ ex ∧ ∀ p ∈ ex, H p = none ∧ p ∉ d.am
  ban : d'.ban = d.ban
  keep : ∀ b o, H b = some o → b ∉ d.am → H' b = some o
section
variable {K : PySem.W.Frag} {d d' d'' : Wd} {H H' H'' : Hp} {a : Addr} {vs : List V} {μ : Store}
theorem Ext.refl : Ext d H d H := ⟨⟨[], by simp, fun p hp => by simp at hp⟩, rfl, fun _ _ e _ => e⟩
theorem Ext.mem (e : Ext d H d' H') (h : a ∈ d.am) : a ∈ d'.am := by
  obtain ⟨ex, q, _⟩ := e.am
  rw [q]; exact List.mem_append_left _ h
theorem Ext.at (e : Ext d H d' H') {n : Nat} (h : d.am[n]? = some a) : d'.am[n]? = some a := by
  obtain ⟨ex, q, _⟩ := e.am
  rw [q, List.getElem?_append_left]
  · exact h
  · exact (List.getElem?_eq_some_iff.mp h).1
theorem Ext.nmem (e : Ext d H d' H') (h : a ∉ d.am) (t : H a ≠ none) : a ∉ d'.am := by
  obtain ⟨ex, q, f⟩ := e.am
  rw [q]
  intro z
  rcases List.mem_append.mp z with z | z
  · exact h z
  · exact t (f a z).1
theorem Ext.trans (e : Ext d H d' H') (f : Ext d' H' d'' H'') : Ext d H d'' H'' := by
  refine ⟨?_, f.ban.trans e.ban, fun b o h n => f.keep b o (e.keep b o h n) (e.nmem n (by rw [h]; simp))⟩
  obtain ⟨x1, q1, f1⟩ := e.am
  obtain ⟨x2, q2, f2⟩ := f.am
  refine ⟨x1 ++ x2, by rw [q2, q1, List.append_assoc], fun p hp => ?_⟩
  rcases List.mem_append.mp hp with hp | hp
  · exact f1 p hp
  · obtain ⟨n1, n2⟩ := f2 p hp
    have n3 : p ∉ d.am := fun z => n2 (e.mem z)
    refine ⟨?_, n3⟩
    cases q : H p with
    | none => rfl
    | some o => rw [e.keep p o q n3] at n1; cases n1
theorem Rd.ne {u : HO} (r : Rd H a u) : H a ≠ none := by
  rcases r with r | ⟨o, r⟩ <;> rw [r] <;> simp
theorem Ext.rd (e : Ext d H d' H') {u : HO} (r : Rd H a u) (n : a ∉ d.am) : Rd H' a u := by
  rcases r with r | ⟨o, r⟩
  · exact .inl (e.keep _ _ r n)
  · exact .inr ⟨o, e.keep _ _ r n⟩
theorem Ext.tupAt (e : Ext d H d' H') (h : TupAt K d H a vs) : TupAt K d' H' a vs := by
  rcases h with ⟨r, n⟩ | h
  · exact .inl ⟨e.rd r n, e.nmem n (Rd.ne r)⟩
  · exact .inr h
theorem Ext.lstAt (e : Ext d H d' H') (h : LstAt d H a vs) : LstAt d' H' a vs := by
  obtain ⟨r, n, b⟩ := h
  exact ⟨e.keep _ _ r n, e.nmem n (by rw [r]; simp), by rw [e.ban]; exact b⟩
theorem Ext.klAt (e : Ext d H d' H') (h : KlAt K d H a vs) : KlAt K d' H' a vs := by
  rcases h with ⟨r, n, b⟩ | h
  · exact .inl ⟨e.rd r n, e.nmem n (Rd.ne r), by rw [e.ban]; exact b⟩
  · exact .inr h
mutual
theorem RV.mono (e : Ext d H d' H') : ∀ {x : PV} {v : V}, RV K d H x v → RV K d' H' x v
  | _, _, .non => .non
  | _, _, .bl b => .bl b
  | _, _, .int i => .int i
  | _, _, .str x => .str x
  | _, _, .ty n => .ty n
  | _, _, .tup h r => .tup (e.tupAt h) (RVs.mono e r)
  | _, _, .lst h r => .lst (e.lstAt h) (RVs.mono e r)
  | _, _, .kl h r => .kl (e.klAt h) (RVs.mono e r)
  | _, _, .mr h => .mr (e.at h)
theorem RVs.mono (e : Ext d H d' H') : ∀ {xs : List PV} {vs : List V}, RVs K d H xs vs → RVs K d' H' xs vs
  | _, _, .nil => .nil
  | _, _, .cons r t => .cons (RV.mono e r) (RVs.mono e t)
end
theorem SqT.of0 (h : SqT K hp0 a vs) : SqT K H a vs := by
  rcases h with (h | ⟨o, h⟩) | h
  · cases h
  · cases h
  · exact .inr h
theorem SqL.of0 (h : SqL K hp0 a vs) : SqL K H a vs := by
  rcases h with (h | ⟨o, h⟩) | h
  · cases h
  · cases h
  · exact .inr h
theorem TupAt.sq (h : TupAt K d H a vs) : SqT K H a vs := by
  rcases h with ⟨r, n⟩ | h
  · exact .inl r
  · exact SqT.of0 h
theorem LstAt.sq (h : LstAt d H a vs) : SqL K H a vs := .of h.1
theorem KlAt.sq (h : KlAt K d H a vs) : SqL K H a vs := by
  rcases h with ⟨r, n⟩ | h
  · exact .inl r
  · exact SqL.of0 h
theorem RVs.length : ∀ {xs : List PV} {vs : List V}, RVs K d H xs vs → xs.length = vs.length
  | _, _, .nil => rfl
  | _, _, .cons _ t => by rw [List.length_cons, List.length_cons, RVs.length t]
theorem RVs.get : ∀ {xs : List PV} {vs : List V} {i : Nat} {x : PV}, RVs K d H xs vs → xs[i]? = some x → ∃ v, vs[i]? = some v ∧ RV K d H x v
  | _, _, _, _, .nil, h => by simp at h
  | _, _, 0, _, .cons r _, h => by
    simp at h; subst h; exact ⟨_, rfl, r⟩
  | _, _, i + 1, _, .cons _ t, h => by
    obtain ⟨v, e, r⟩ := RVs.get (i := i) t (by simpa using h)
    exact ⟨v, by simpa using e, r⟩
theorem RVs.append : ∀ {xs ys : List PV} {vs us : List V}, RVs K d H xs vs → RVs K d H ys us → RVs K d H (xs ++ ys) (vs ++ us)
  | _, _, _, _, .nil, h => h
  | _, _, _, _, .cons r t, h => .cons r (RVs.append t h)
theorem RVs.drop : ∀ {xs : List PV} {vs : List V} (n : Nat), RVs K d H xs vs → RVs K d H (xs.drop n) (vs.drop n)
  | _, _, 0, h => h
  | _, _, _ + 1, .nil => .nil
  | _, _, n + 1, .cons _ t => RVs.drop n t
theorem RVs.take : ∀ {xs : List PV} {vs : List V} (n : Nat), RVs K d H xs vs → RVs K d H (xs.take n) (vs.take n)
  | _, _, 0, h => .nil
  | _, _, _ + 1, .nil => .nil
  | _, _, n + 1, .cons r t => .cons r (RVs.take n t)
theorem RVs.rev : ∀ {xs : List PV} {vs : List V}, RVs K d H xs vs → RVs K d H xs.reverse vs.reverse
  | _, _, .nil => .nil
  | _, _, .cons r t => by
    rw [List.reverse_cons, List.reverse_cons]
    exact (RVs.rev t).append (.cons r .nil)
theorem RVs.set {x : PV} {v : V} (r : RV K d H x v) : ∀ {xs : List PV} {vs : List V} (i : Nat), RVs K d H xs vs → RVs K d H (xs.set i x) (vs.set i v)
  | _, _, _, .nil => .nil
  | _, _, 0, .cons _ t => .cons r t
  | _, _, i + 1, .cons q t => .cons q (RVs.set r i t)
theorem RVs.ints : ∀ {ns : List Int} {vs : List V}, RVs K d H (ns.map PV.int) vs → vs = ns.map V.int
  | [], _, .nil => rfl
  | n :: ns, _, .cons (.int _) t => by rw [RVs.ints t]; rfl
theorem RVs.bools : ∀ {bs : List Bool} {vs : List V}, RVs K d H (bs.map PV.bl) vs → vs = bs.map V.bl
  | [], _, .nil => rfl
  | n :: ns, _, .cons (.bl _) t => by rw [RVs.bools t]; rfl
theorem RVs.of_ints : ∀ (ns : List Int), RVs K d H (ns.map PV.int) (ns.map V.int)
  | [] => .nil
  | n :: ns => .cons (.int n) (RVs.of_ints ns)
theorem REnv.mono (e : Ext d H d' H') {ρ : PEnv} {σ : L2.St} (h : REnv K d H ρ σ) : REnv K d' H' ρ σ :=
  ⟨h.1, fun i x q => let ⟨v, a, b⟩ := h.2 i x q; ⟨v, a, b.mono e⟩⟩
theorem REnv.set {ρ : PEnv} {σ : L2.St} (h : REnv K d H ρ σ) {x : PV} {v : V} (r : RV K d H x v) (i : Nat) : REnv K d H (ρ.set i (some x)) (σ.set i (some v)) := by
  refine ⟨by rw [List.length_set, List.length_set]; exact h.1, fun j y q => ?_⟩
  rw [List.getElem?_set] at q ⊢
  by_cases hij : i = j
  · subst hij
    by_cases hl : i < ρ.length
    · rw [if_pos rfl, if_pos hl] at q
      simp at q; subst q
      exact ⟨v, by rw [if_pos rfl, if_pos (by rw [← h.1]; exact hl)], r⟩
    · rw [if_pos rfl, if_neg hl] at q; cases q
  · rw [if_neg hij] at q ⊢
    exact h.2 j y q
theorem REnv.unset {ρ : PEnv} {σ : L2.St} (h : REnv K d H ρ σ) (i : Nat) : REnv K d H (ρ.set i none) (σ.set i none) := by
  refine ⟨by rw [List.length_set, List.length_set]; exact h.1, fun j y q => ?_⟩
  rw [List.getElem?_set] at q ⊢
  by_cases hij : i = j
  · subst hij
    rw [if_pos rfl] at q
    split at q <;> cases q
  · rw [if_neg hij] at q ⊢
    exact h.2 j y q
theorem WOk.notin (w : WOk K d H μ) (h : H a = none) : a ∉ d.am := fun z => by
  obtain ⟨i, hi, e⟩ := List.getElem_of_mem z
  have e1 : d.am[i]? = some a := by rw [List.getElem?_eq_getElem hi, e]
  have hj : i < μ.length := by rw [← w.len]; exact hi
  have q := w.ob i a μ[i] e1 (List.getElem?_eq_getElem hj)
  cases m : μ[i] with
  | lst xs => rw [m] at q; obtain ⟨vs, q, _⟩ := q; rw [h] at q; cases q
  | dk kvs => rw [m] at q; obtain ⟨vs, q, _⟩ := q; rw [h] at q; cases q
  | fd o ws kvs => rw [m] at q; obtain ⟨q, _⟩ := q; rw [h] at q; cases q
  | tk kvs => rw [m] at q; obtain ⟨vs, q, _⟩ := q; rw [h] at q; cases q
  | ft o ws kvs => rw [m] at q; obtain ⟨q, _⟩ := q; rw [h] at q; cases q
theorem WOk.notban (w : WOk K d H μ) (h : H a = none) : a ∉ d.ban := fun z => (w.ban a z).1 h
theorem MOK.mono (e : Ext d H d' H') {m : MO} (hk : H' a = H a) (h : MOK K d H a m) : MOK K d' H' a m := by
  cases m with
  | lst xs => obtain ⟨vs, q, r⟩ := h; exact ⟨vs, by rw [hk]; exact q, r.mono e⟩
  | dk kvs => obtain ⟨vs, q, r1, r2⟩ := h; exact ⟨vs, by rw [hk]; exact q, r1, r2.mono e⟩
  | fd o ws kvs => obtain ⟨q, r1, r2⟩ := h; exact ⟨by rw [hk]; exact q, r1, r2.mono e⟩
  | tk kvs => obtain ⟨vs, q, r0, r1, r2⟩ := h; exact ⟨vs, by rw [hk]; exact q, r0, r1.mono e, r2.mono e⟩
  | ft o ws kvs => obtain ⟨q, r0, r1, r2⟩ := h; exact ⟨by rw [hk]; exact q, r0, r1.mono e, r2.mono e⟩
theorem Ext.lay {o : HO} (w : WOk K d H μ) (h : H a = none) : Ext d H d (upd H a o) :=
  ⟨⟨[], by simp, fun p hp => by simp at hp⟩, rfl, fun b u e _ => by rw [upd_ne (ne_of_none e h)]; exact e⟩
theorem WOk.lay {o : HO} (w : WOk K d H μ) (h : H a = none) : WOk K d (upd H a o) μ := by
  have e : Ext d H d (upd H a o) := Ext.lay w h
  refine ⟨w.len, w.nd, fun i b m h1 h2 => ?_, fun b hb => ?_⟩
  · have hne : b ≠ a := by
      rintro rfl
      exact w.notin h (List.mem_of_getElem? h1)
    exact (w.ob i b m h1 h2).mono e (upd_ne hne)
  · obtain ⟨x, y⟩ := w.ban b hb
    refine ⟨?_, y⟩
    have hne : b ≠ a := by rintro rfl; exact x h
    rw [upd_ne hne]; exact x
def Wd.push (d : Wd) (a : Addr) : Wd := ⟨d.am ++ [a], d.ban⟩
theorem Ext.push {o : HO} (w : WOk K d H μ) (h : H a = none) : Ext d H (d.push a) (upd H a o) :=
  ⟨⟨[a], rfl, fun p hp => by
    have : p = a := by simpa using hp
    subst this; exact ⟨h, w.notin h⟩⟩, rfl, fun b u e _ => by rw [upd_ne (ne_of_none e h)]; exact e⟩
theorem WOk.push {o : HO} {m : MO} (w : WOk K d H μ) (h : H a = none) (hm : MOK K (d.push a) (upd H a o) a m) : WOk K (d.push a) (upd H a o) (μ ++ [m]) := by
  have e : Ext d H (d.push a) (upd H a o) := Ext.push w h
  have na := w.notin h
  refine ⟨by simp [Wd.push, w.len], ?_, fun i b m' h1 h2 => ?_, fun b hb => ?_⟩
  · show (d.am ++ [a]).Nodup
    rw [List.nodup_append]
    exact ⟨w.nd, by simp, fun x hx y hy => by
      have : y = a := by simpa using hy
      subst this; rintro rfl; exact na hx⟩
  · replace h1 : (d.am ++ [a])[i]? = some b := h1
    by_cases hi : i < d.am.length
    · rw [List.getElem?_append_left hi] at h1
      rw [List.getElem?_append_left (by rw [← w.len]; exact hi)] at h2
      have hne : b ≠ a := by rintro rfl; exact na (List.mem_of_getElem? h1)
      exact (w.ob i b m' h1 h2).mono e (upd_ne hne)
    · have hi2 : i = d.am.length := by
        have := (List.getElem?_eq_some_iff.mp h1).1
        simp at this; omega
      subst hi2
      rw [List.getElem?_append_right (Nat.le_refl _)] at h1
      rw [w.len, List.getElem?_append_right (Nat.le_refl _)] at h2
      simp at h1 h2
      subst h1; subst h2
      exact hm
  · obtain ⟨x, y⟩ := w.ban b hb
    have hne : b ≠ a := by rintro rfl; exact x h
    exact ⟨by rw [upd_ne hne]; exact x, fun z => (List.mem_append.mp z).elim y (by simpa using hne)⟩
theorem Ext.chg {o : HO} (h : a ∈ d.am) : Ext d H d (upd H a o) :=
  ⟨⟨[], by simp, fun p hp => by simp at hp⟩, rfl, fun b u e n => by
    have hne : b ≠ a := by rintro rfl; exact n h
    rw [upd_ne hne]; exact e⟩
theorem WOk.chg {o : HO} {m : MO} {n : Nat} (w : WOk K d H μ) (h : d.am[n]? = some a) (hm : MOK K d (upd H a o) a m) : WOk K d (upd H a o) (μ.set n m) := by
  have ha : a ∈ d.am := List.mem_of_getElem? h
  have e : Ext d H d (upd H a o) := Ext.chg ha
  refine ⟨by rw [List.length_set]; exact w.len, w.nd, fun i b m' h1 h2 => ?_, fun b hb => ?_⟩
  · rw [List.getElem?_set] at h2
    by_cases hin : n = i
    · subst hin
      rw [h] at h1; cases h1
      rw [if_pos rfl] at h2
      split at h2
      · cases h2; exact hm
      · cases h2
    · rw [if_neg hin] at h2
      have hne : b ≠ a := by
        rintro rfl
        have z1 := List.getElem?_eq_some_iff.mp h
        have z2 := List.getElem?_eq_some_iff.mp h1
        obtain ⟨l1, z1⟩ := z1
        obtain ⟨l2, z2⟩ := z2
        exact hin ((List.getElem_inj w.nd).mp (z1.trans z2.symm))
      exact (w.ob i b m' h1 h2).mono e (upd_ne hne)
  · obtain ⟨x, y⟩ := w.ban b hb
    have hne : b ≠ a := by rintro rfl; exact y ha
    exact ⟨by rw [upd_ne hne]; exact x, y⟩
end
end Fx
namespace Fx
open PySem PySem.Spec PyProof.Rows L2
abbrev ME := PEnv → Store → (PV → Store → Prop) → Prop
abbrev MT := PEnv → Store → (Bool → Store → Prop) → Prop
abbrev MA := PEnv → Store → (List PV → Store → Prop) → Prop
structure MEnds where
  nx : PEnv → Store → Prop
  rt : PV → Store → Prop
  bk : PEnv → Store → Prop := fun _ _ => False
  ct : PEnv → Store → Prop := fun _ _ => False
abbrev MS := MEnds → PEnv → Store → Prop
abbrev MG := PV → PEnv → Store → (PEnv → Store → Prop) → Prop
abbrev MGs := List PV → PEnv → Store → (PEnv → Store → Prop) → Prop
abbrev MI := PEnv → Store → (List PV → Store → Prop) → Prop
abbrev MO2 := PV → PV → Store → (PV → Store → Prop) → Prop
abbrev MB := List PV → Store → (PV → Store → Prop) → Prop
section
variable (K : PySem.W.Frag)
class FE (t : TE) (m : outParam ME) : Prop where
  run : ∀ (d : Wd) (σ : L2.St) (H : Hp) (ρ : PEnv) (μ : Store) (P : PV → Store → Prop) (Q : VK), WOk K d H μ → REnv K d H ρ σ → m ρ μ P →
    (∀ d' H' μ' x v, Ext d H d' H' → WOk K d' H' μ' → RV K d' H' x v → P x μ' → Q v H') → t σ H Q
class FT (t : TT) (m : outParam MT) : Prop where
  run : ∀ (d : Wd) (σ : L2.St) (H : Hp) (ρ : PEnv) (μ : Store) (P : Bool → Store → Prop) (Q : Bool → Hp → Prop), WOk K d H μ → REnv K d H ρ σ → m ρ μ P →
    (∀ d' H' μ' b, Ext d H d' H' → WOk K d' H' μ' → P b μ' → Q b H') → t σ H Q
class FA (t : TA) (m : outParam MA) : Prop where
  run : ∀ (d : Wd) (σ : L2.St) (H : Hp) (ρ : PEnv) (μ : Store) (P : List PV → Store → Prop) (Q : List V → Hp → Prop), WOk K d H μ → REnv K d H ρ σ → m ρ μ P →
    (∀ d' H' μ' xs vs, Ext d H d' H' → WOk K d' H' μ' → RVs K d' H' xs vs → P xs μ' → Q vs H') → t σ H Q
structure Lk (d : Wd) (H : Hp) (P : MEnds) (D : Ends) : Prop where
  nx : ∀ d' σ' H' ρ' μ', Ext d H d' H' → WOk K d' H' μ' → REnv K d' H' ρ' σ' → P.nx ρ' μ' → D.nx σ' H'
  rt : ∀ d' H' μ' x v, Ext d H d' H' → WOk K d' H' μ' → RV K d' H' x v → P.rt x μ' → D.rt v H'
  bk : ∀ d' σ' H' ρ' μ', Ext d H d' H' → WOk K d' H' μ' → REnv K d' H' ρ' σ' → P.bk ρ' μ' → D.bk σ' H'
  ct : ∀ d' σ' H' ρ' μ', Ext d H d' H' → WOk K d' H' μ' → REnv K d' H' ρ' σ' → P.ct ρ' μ' → D.ct σ' H'
class FS (t : TS) (m : outParam MS) : Prop where
  run : ∀ (d : Wd) (σ : L2.St) (H : Hp) (ρ : PEnv) (μ : Store) (P : MEnds) (D : Ends), WOk K d H μ → REnv K d H ρ σ → m P ρ μ → Lk K d H P D → t D σ H
class FG (t : TG) (m : outParam MG) (sl : outParam (List Nat)) : Prop where
  run : ∀ (d : Wd) (σ : L2.St) (H : Hp) (ρ : PEnv) (μ : Store) (x : PV) (v : V) (P : PEnv → Store → Prop) (Q : L2.St → Hp → Prop), WOk K d H μ → REnv K d H ρ σ → RV K d H x v → m x ρ μ P →
    (∀ d' σ' H' ρ' μ', Ext d H d' H' → WOk K d' H' μ' → REnv K d' H' ρ' σ' → σ'.length = σ.length → (∀ i, i ∉ sl → σ'[i]? = σ[i]?) → P ρ' μ' → Q σ' H') → t v σ H Q
class FGs (t : TGs) (m : outParam MGs) (sl : outParam (List Nat)) : Prop where
  run : ∀ (d : Wd) (σ : L2.St) (H : Hp) (ρ : PEnv) (μ : Store) (xs : List PV) (vs : List V) (P : PEnv → Store → Prop) (Q : L2.St → Hp → Prop), WOk K d H μ → REnv K d H ρ σ → RVs K d H xs vs → m xs ρ μ P →
    (∀ d' σ' H' ρ' μ', Ext d H d' H' → WOk K d' H' μ' → REnv K d' H' ρ' σ' → σ'.length = σ.length → (∀ i, i ∉ sl → σ'[i]? = σ[i]?) → P ρ' μ' → Q σ' H') → t vs σ H Q
def Bars (d d' : Wd) (H : Hp) : Prop := d'.am = d.am ∧ ∀ b ∈ d'.ban, b ∈ d.ban ∨ H b = none
def ItOk (d0 : Wd) (H0 : Hp) (J : It) (xs : List PV) : Prop :=
  ∀ d1 d H μ, Bars d0 d1 H0 → Ext d1 H0 d H → WOk K d H μ → (∀ (i : Nat) x, xs[i]? = some x → J.go i H ∧ ∀ v H', J.yld i H v H' → Ext d H d H' ∧ WOk K d H' μ ∧ RV K d H' x v) ∧ (∀ i, xs.length ≤ i → J.stop i H)
class FI (t : TI) (m : outParam MI) : Prop where
  run : ∀ (d : Wd) (σ : L2.St) (H : Hp) (ρ : PEnv) (μ : Store) (P : List PV → Store → Prop) (R : It → Hp → Prop), WOk K d H μ → REnv K d H ρ σ → m ρ μ P →
    (∀ d' H' μ' J xs, Ext d H d' H' → WOk K d' H' μ' → ItOk K d' H' J xs → P xs μ' → R J H') → t σ H R
class F2 (r : R2) (p : outParam MO2) : Prop where
  run : ∀ (d : Wd) (H : Hp) (μ : Store) (x y : PV) (v u : V) (P : PV → Store → Prop) (Q : VK), WOk K d H μ → RV K d H x v → RV K d H y u → p x y μ P →
    (∀ d' H' μ' z w, Ext d H d' H' → WOk K d' H' μ' → RV K d' H' z w → P z μ' → Q w H') → r v u H Q
class F1 (r : V → Hp → VK → Prop) (p : outParam (PV → Store → (PV → Store → Prop) → Prop)) : Prop where
  run : ∀ (d : Wd) (H : Hp) (μ : Store) (x : PV) (v : V) (P : PV → Store → Prop) (Q : VK), WOk K d H μ → RV K d H x v → p x μ P →
    (∀ d' H' μ' z w, Ext d H d' H' → WOk K d' H' μ' → RV K d' H' z w → P z μ' → Q w H') → r v H Q
class FB (r : List V → Hp → VK → Prop) (p : outParam MB) : Prop where
  run : ∀ (d : Wd) (H : Hp) (μ : Store) (xs : List PV) (vs : List V) (P : PV → Store → Prop) (Q : VK), WOk K d H μ → RVs K d H xs vs → p xs μ P →
    (∀ d' H' μ' z w, Ext d H d' H' → WOk K d' H' μ' → RV K d' H' z w → P z μ' → Q w H') → r vs H Q
class FM (r : V → List V → Hp → VK → Prop) (p : outParam (PV → List PV → Store → (PV → Store → Prop) → Prop)) : Prop where
  run : ∀ (d : Wd) (H : Hp) (μ : Store) (x : PV) (v : V) (xs : List PV) (vs : List V) (P : PV → Store → Prop) (Q : VK), WOk K d H μ → RV K d H x v → RVs K d H xs vs → p x xs μ P →
    (∀ d' H' μ' z w, Ext d H d' H' → WOk K d' H' μ' → RV K d' H' z w → P z μ' → Q w H') → r v vs H Q
end
section
variable {K : PySem.W.Frag}
theorem Lk.mono {d d1 : Wd} {H H1 : Hp} {P : MEnds} {D : Ends} (e : Ext d H d1 H1) (l : Lk K d H P D) : Lk K d1 H1 P D :=
  ⟨fun _ _ _ _ _ f => l.nx _ _ _ _ _ (e.trans f), fun _ _ _ _ _ f => l.rt _ _ _ _ _ (e.trans f), fun _ _ _ _ _ f => l.bk _ _ _ _ _ (e.trans f), fun _ _ _ _ _ f => l.ct _ _ _ _ _ (e.trans f)⟩
def mVar (i : Nat) : ME := fun ρ μ P => match ρ[i]? with | some (some x) => P x μ | _ => False
def mC (x : PV) : ME := fun _ μ P => P x μ
class CV (v : V) (x : outParam PV) : Prop where
  rv : ∀ K d H, RV K d H x v
instance : CV .non .non := ⟨fun _ _ _ => .non⟩
instance {b} : CV (.bl b) (.bl b) := ⟨fun _ _ _ => .bl b⟩
instance {b} : CV (.int b) (.int b) := ⟨fun _ _ _ => .int b⟩
instance {b} : CV (.str b) (.str b) := ⟨fun _ _ _ => .str b⟩
instance {b} : CV (.ty b) (.ty b) := ⟨fun _ _ _ => .ty b⟩
instance {i} : FE K (tVar i) (mVar i) := ⟨fun d σ H ρ μ P Q w e h k => by
  unfold mVar at h
  split at h
  · rename_i x hx
    obtain ⟨v, hv, r⟩ := e.2 i x hx
    exact ⟨v, hv, k d H μ x v .refl w r h⟩
  · exact h.elim⟩
instance {v x} [c : CV v x] : FE K (tC v) (mC x) := ⟨fun d σ H ρ μ P Q w e h k => k d H μ x v .refl w (c.rv _ _ _) h⟩
def mOp (p : MO2) (a b : ME) : ME := fun ρ μ P => a ρ μ fun x μ1 => b ρ μ1 fun y μ2 => p x y μ2 P
instance {r p ta tb ma mb} [h : F2 K r p] [ha : FE K ta ma] [hb : FE K tb mb] : FE K (tOp r ta tb) (mOp p ma mb) := ⟨fun d σ H ρ μ P Q w e q k => by
  refine ha.run d σ H ρ μ _ _ w e q fun d1 H1 μ1 x v e1 w1 r1 q1 => ?_
  refine hb.run d1 σ H1 ρ μ1 _ _ w1 (e.mono e1) q1 fun d2 H2 μ2 y u e2 w2 r2 q2 => ?_
  exact h.run d2 H2 μ2 x y v u P Q w2 (r1.mono e2) r2 q2 fun d3 H3 μ3 z w' e3 w3 r3 q3 => k d3 H3 μ3 z w' ((e1.trans e2).trans e3) w3 r3 q3⟩
def mUn (p : PV → Store → (PV → Store → Prop) → Prop) (a : ME) : ME := fun ρ μ P => a ρ μ fun x μ1 => p x μ1 P
instance {r p ta ma} [h : F1 K r p] [ha : FE K ta ma] : FE K (tUn r ta) (mUn p ma) := ⟨fun d σ H ρ μ P Q w e q k => by
  refine ha.run d σ H ρ μ _ _ w e q fun d1 H1 μ1 x v e1 w1 r1 q1 => ?_
  exact h.run d1 H1 μ1 x v P Q w1 r1 q1 fun d3 H3 μ3 z w' e3 w3 r3 q3 => k d3 H3 μ3 z w' (e1.trans e3) w3 r3 q3⟩
def pI (C : Int → Int → Prop) (g : Int → Int → PV) : MO2 := fun x y μ P => match x, y with | .int i, .int j => C i j ∧ P (g i j) μ | _, _ => False
def pI0 (g : Int → Int → PV) : MO2 := fun x y μ P => match x, y with | .int i, .int j => P (g i j) μ | _, _ => False
theorem pI_run {C : Int → Int → Prop} {g : Int → Int → PV} {x y : PV} {μ : Store} {P : PV → Store → Prop} (h : pI C g x y μ P) : ∃ i j, x = .int i ∧ y = .int j ∧ C i j ∧ P (g i j) μ := by
  cases x <;> cases y <;> first | exact h.elim | exact ⟨_, _, rfl, rfl, h.1, h.2⟩
theorem pI0_run {g : Int → Int → PV} {x y : PV} {μ : Store} {P : PV → Store → Prop} (h : pI0 g x y μ P) : ∃ i j, x = .int i ∧ y = .int j ∧ P (g i j) μ := by
  cases x <;> cases y <;> first | exact h.elim | exact ⟨_, _, rfl, rfl, h⟩
instance {C : Int → Int → Prop} {f : Int → Int → Int} : F2 K (rI C fun i j => .int (f i j)) (pI C fun i j => .int (f i j)) := ⟨fun d H μ x y v u P Q w r1 r2 q k => by
  obtain ⟨i, j, rfl, rfl, c, q⟩ := pI_run q
  cases r1; cases r2
  exact ⟨i, j, rfl, rfl, c, k d H μ _ _ .refl w (.int _) q⟩⟩
instance {f : Int → Int → Int} : F2 K (rI0 fun i j => .int (f i j)) (pI0 fun i j => .int (f i j)) := ⟨fun d H μ x y v u P Q w r1 r2 q k => by
  obtain ⟨i, j, rfl, rfl, q⟩ := pI0_run q
  cases r1; cases r2
  exact ⟨i, j, rfl, rfl, k d H μ _ _ .refl w (.int _) q⟩⟩
instance {C : Int → Int → Prop} {f : Int → Int → Bool} : F2 K (rI C fun i j => .bl (f i j)) (pI C fun i j => .bl (f i j)) := ⟨fun d H μ x y v u P Q w r1 r2 q k => by
  obtain ⟨i, j, rfl, rfl, c, q⟩ := pI_run q
  cases r1; cases r2
  exact ⟨i, j, rfl, rfl, c, k d H μ _ _ .refl w (.bl _) q⟩⟩
instance {f : Int → Int → Bool} : F2 K (rI0 fun i j => .bl (f i j)) (pI0 fun i j => .bl (f i j)) := ⟨fun d H μ x y v u P Q w r1 r2 q k => by
  obtain ⟨i, j, rfl, rfl, q⟩ := pI0_run q
  cases r1; cases r2
  exact ⟨i, j, rfl, rfl, k d H μ _ _ .refl w (.bl _) q⟩⟩
def pU (g : Int → PV) : PV → Store → (PV → Store → Prop) → Prop := fun x μ P => match x with | .int i => P (g i) μ | _ => False
instance {f : Int → Int} : F1 K (rU fun i => .int (f i)) (pU fun i => .int (f i)) := ⟨fun d H μ x v P Q w r1 q k => by
  cases x <;> try exact q.elim
  cases r1
  exact ⟨_, rfl, k d H μ _ _ .refl w (.int _) q⟩⟩
def mTest (m : ME) : MT := fun ρ μ P => m ρ μ fun x μ1 => match x with | .bl b => P b μ1 | _ => False
instance {t m} [h : FE K t m] : FT K (tTest t) (mTest m) := ⟨fun d σ H ρ μ P Q w e q k => by
  refine h.run d σ H ρ μ _ _ w e q fun d1 H1 μ1 x v e1 w1 r1 q1 => ?_
  cases x <;> try exact q1.elim
  cases r1
  exact ⟨_, rfl, k d1 H1 μ1 _ e1 w1 q1⟩⟩
instance {t m} [h : FE K t m] : FT K (tB t) (mTest m) := ⟨fun d σ H ρ μ P Q w e q k => by
  refine h.run d σ H ρ μ _ _ w e q fun d1 H1 μ1 x v e1 w1 r1 q1 => ?_
  cases x <;> try exact q1.elim
  cases r1
  exact ⟨_, rfl, k d1 H1 μ1 _ e1 w1 q1⟩⟩
def mAnd (a b : MT) : MT := fun ρ μ P => a ρ μ fun c μ1 => if c = true then b ρ μ1 P else P false μ1
def mOr (a b : MT) : MT := fun ρ μ P => a ρ μ fun c μ1 => if c = true then P true μ1 else b ρ μ1 P
def mNot (a : MT) : MT := fun ρ μ P => a ρ μ fun c μ1 => P (!c) μ1
def mYes : MT := fun _ μ P => P true μ
instance {a b ma mb} [ha : FT K a ma] [hb : FT K b mb] : FT K (tAnd a b) (mAnd ma mb) := ⟨fun d σ H ρ μ P Q w e q k => by
  refine ha.run d σ H ρ μ _ _ w e q fun d1 H1 μ1 c e1 w1 q1 => ?_
  cases c
  · rw [if_neg (by simp)] at q1 ⊢
    exact k d1 H1 μ1 _ e1 w1 q1
  · rw [if_pos rfl] at q1 ⊢
    exact hb.run d1 σ H1 ρ μ1 _ _ w1 (e.mono e1) q1 fun d2 H2 μ2 b e2 w2 q2 => k d2 H2 μ2 b (e1.trans e2) w2 q2⟩
instance {a b ma mb} [ha : FT K a ma] [hb : FT K b mb] : FT K (tOr a b) (mOr ma mb) := ⟨fun d σ H ρ μ P Q w e q k => by
  refine ha.run d σ H ρ μ _ _ w e q fun d1 H1 μ1 c e1 w1 q1 => ?_
  cases c
  · rw [if_neg (by simp)] at q1 ⊢
    exact hb.run d1 σ H1 ρ μ1 _ _ w1 (e.mono e1) q1 fun d2 H2 μ2 b e2 w2 q2 => k d2 H2 μ2 b (e1.trans e2) w2 q2
  · rw [if_pos rfl] at q1 ⊢
    exact k d1 H1 μ1 _ e1 w1 q1⟩
instance {a ma} [ha : FT K a ma] : FT K (tNot a) (mNot ma) := ⟨fun d σ H ρ μ P Q w e q k =>
  ha.run d σ H ρ μ _ _ w e q fun d1 H1 μ1 c e1 w1 q1 => k d1 H1 μ1 _ e1 w1 q1⟩
instance : FT K tYes mYes := ⟨fun d σ H ρ μ P Q w e q k => k d H μ _ .refl w q⟩
def mAndV (a b : ME) : ME := fun ρ μ P => a ρ μ fun x μ1 => match x with | .bl c => if c = true then b ρ μ1 P else P (.bl false) μ1 | _ => False
def mOrV (a b : ME) : ME := fun ρ μ P => a ρ μ fun x μ1 => match x with | .bl c => if c = true then P (.bl true) μ1 else b ρ μ1 P | _ => False
def mNotV (a : ME) : ME := fun ρ μ P => a ρ μ fun x μ1 => match x with | .bl c => P (.bl (!c)) μ1 | _ => False
instance {a b ma mb} [ha : FE K a ma] [hb : FE K b mb] : FE K (tAndV a b) (mAndV ma mb) := ⟨fun d σ H ρ μ P Q w e q k => by
  refine ha.run d σ H ρ μ _ _ w e q fun d1 H1 μ1 x v e1 w1 r1 q1 => ?_
  cases x <;> try exact q1.elim
  rename_i c
  cases r1
  refine ⟨c, rfl, ?_⟩
  cases c
  · exact k d1 H1 μ1 _ _ e1 w1 (.bl _) q1
  · exact hb.run d1 σ H1 ρ μ1 _ _ w1 (e.mono e1) q1 fun d2 H2 μ2 y u e2 w2 r2 q2 => k d2 H2 μ2 y u (e1.trans e2) w2 r2 q2⟩
instance {a b ma mb} [ha : FE K a ma] [hb : FE K b mb] : FE K (tOrV a b) (mOrV ma mb) := ⟨fun d σ H ρ μ P Q w e q k => by
  refine ha.run d σ H ρ μ _ _ w e q fun d1 H1 μ1 x v e1 w1 r1 q1 => ?_
  cases x <;> try exact q1.elim
  rename_i c
  cases r1
  refine ⟨c, rfl, ?_⟩
  cases c
  · exact hb.run d1 σ H1 ρ μ1 _ _ w1 (e.mono e1) q1 fun d2 H2 μ2 y u e2 w2 r2 q2 => k d2 H2 μ2 y u (e1.trans e2) w2 r2 q2
  · exact k d1 H1 μ1 _ _ e1 w1 (.bl _) q1⟩
instance {a ma} [ha : FE K a ma] : FE K (tNotV a) (mNotV ma) := ⟨fun d σ H ρ μ P Q w e q k => by
  refine ha.run d σ H ρ μ _ _ w e q fun d1 H1 μ1 x v e1 w1 r1 q1 => ?_
  cases x <;> try exact q1.elim
  cases r1
  exact ⟨_, rfl, k d1 H1 μ1 _ _ e1 w1 (.bl _) q1⟩⟩
def mIf (c : MT) (a b : ME) : ME := fun ρ μ P => c ρ μ fun x μ1 => if x = true then a ρ μ1 P else b ρ μ1 P
instance {t a b mt ma mb} [ht : FT K t mt] [ha : FE K a ma] [hb : FE K b mb] : FE K (tIf t a b) (mIf mt ma mb) := ⟨fun d σ H ρ μ P Q w e q k => by
  refine ht.run d σ H ρ μ _ _ w e q fun d1 H1 μ1 c e1 w1 q1 => ?_
  cases c
  · exact hb.run d1 σ H1 ρ μ1 _ _ w1 (e.mono e1) q1 fun d2 H2 μ2 y u e2 w2 r2 q2 => k d2 H2 μ2 y u (e1.trans e2) w2 r2 q2
  · exact ha.run d1 σ H1 ρ μ1 _ _ w1 (e.mono e1) q1 fun d2 H2 μ2 y u e2 w2 r2 q2 => k d2 H2 μ2 y u (e1.trans e2) w2 r2 q2⟩
def mChain (p q : MO2) (a b c : ME) : ME := fun ρ μ P => a ρ μ fun x μ1 => b ρ μ1 fun y μ2 => p x y μ2 fun z μ3 => match z with | .bl k => if k = true then c ρ μ3 fun w μ4 => q y w μ4 P else P (.bl false) μ3 | _ => False
instance {r r' p q ta tb tc ma mb mc} [h : F2 K r p] [h' : F2 K r' q] [ha : FE K ta ma] [hb : FE K tb mb] [hc : FE K tc mc] : FE K (tChain r r' ta tb tc) (mChain p q ma mb mc) := ⟨fun d σ H ρ μ P Q w e q k => by
  refine ha.run d σ H ρ μ _ _ w e q fun d1 H1 μ1 x v e1 w1 r1 q1 => ?_
  refine hb.run d1 σ H1 ρ μ1 _ _ w1 (e.mono e1) q1 fun d2 H2 μ2 y u e2 w2 r2 q2 => ?_
  refine h.run d2 H2 μ2 x y v u _ _ w2 (r1.mono e2) r2 q2 fun d3 H3 μ3 z w' e3 w3 r3 q3 => ?_
  cases z <;> try exact q3.elim
  rename_i c
  cases r3
  refine ⟨c, rfl, ?_⟩
  cases c
  · exact k d3 H3 μ3 _ _ ((e1.trans e2).trans e3) w3 (.bl _) q3
  · refine hc.run d3 σ H3 ρ μ3 _ _ w3 (e.mono ((e1.trans e2).trans e3)) q3 fun d4 H4 μ4 y' u' e4 w4 r4 q4 => ?_
    exact h'.run d4 H4 μ4 y y' u u' P Q w4 (r2.mono (e3.trans e4)) r4 q4 fun d5 H5 μ5 z w' e5 w5 r5 q5 => k d5 H5 μ5 z w' ((((e1.trans e2).trans e3).trans e4).trans e5) w5 r5 q5⟩
def mNil : MA := fun _ μ P => P [] μ
def mCons (a : ME) (r : MA) : MA := fun ρ μ P => a ρ μ fun x μ1 => r ρ μ1 fun xs μ2 => P (x :: xs) μ2
instance : FA K tNil mNil := ⟨fun d σ H ρ μ P Q w e q k => k d H μ [] [] .refl w .nil q⟩
instance {a ma t m} [ha : FE K a ma] [ht : FA K t m] : FA K (tCons a t) (mCons ma m) := ⟨fun d σ H ρ μ P Q w e q k => by
  refine ha.run d σ H ρ μ _ _ w e q fun d1 H1 μ1 x v e1 w1 r1 q1 => ?_
  exact ht.run d1 σ H1 ρ μ1 _ _ w1 (e.mono e1) q1 fun d2 H2 μ2 xs vs e2 w2 r2 q2 => k d2 H2 μ2 _ _ (e1.trans e2) w2 (.cons (r1.mono e2) r2) q2⟩
def lim : Nat := 1000000
theorem lim_le : lim ≤ sizeLine := by rw [sizeLine_eq]; decide
theorem lim_lt {n : Nat} (h : n ≤ lim) : n ≤ sizeLine := Nat.le_trans h lim_le
theorem lim_lt' {n : Nat} (h : n ≤ lim) : n < sizeLine := Nat.lt_of_le_of_lt h (by rw [sizeLine_eq]; decide)
def mTup (t : MA) : ME := fun ρ μ P => t ρ μ fun xs μ1 => xs.length ≤ lim ∧ P (.tup xs) μ1
def mLst (t : MA) : ME := fun ρ μ P => t ρ μ fun xs μ1 => xs.length ≤ lim ∧ P (.lst xs) μ1
def mLstM (t : MA) : ME := fun ρ μ P => t ρ μ fun xs μ1 => xs.length ≤ lim ∧ P (.mr μ1.length) (μ1 ++ [.lst xs])
theorem lay_tup {d : Wd} {H : Hp} {μ : Store} {xs : List PV} {vs : List V} {p : Addr} (w : WOk K d H μ) (r : RVs K d H xs vs) (h : H p = none) : RV K d (upd H p (.tup vs)) (.tup xs) (.ref p) :=
  .tup (.inl ⟨.inl upd_same, w.notin h⟩) (r.mono (Ext.lay w h))
theorem lay_lst {d : Wd} {H : Hp} {μ : Store} {xs : List PV} {vs : List V} {p : Addr} (w : WOk K d H μ) (r : RVs K d H xs vs) (h : H p = none) : RV K d (upd H p (.lst vs)) (.lst xs) (.ref p) :=
  .lst ⟨upd_same, w.notin h, w.notban h⟩ (r.mono (Ext.lay w h))
theorem lay_mr {d : Wd} {H : Hp} {μ : Store} {p : Addr} {o : HO} (w : WOk K d H μ) : RV K (d.push p) (upd H p o) (.mr μ.length) (.ref p) := by
  refine .mr ?_
  show (d.am ++ [p])[μ.length]? = some p
  rw [← w.len, List.getElem?_append_right (Nat.le_refl _)]
  simp
def tLstM (t : TA) : TE := tLst t
instance {t m} [h : FA K t m] : FE K (tTup t) (mTup m) := ⟨fun d σ H ρ μ P Q w e q k => by
  refine h.run d σ H ρ μ _ _ w e q fun d1 H1 μ1 xs vs e1 w1 r1 ⟨z, q1⟩ => ⟨by rw [← r1.length]; exact lim_lt z, fun p hp => ?_⟩
  exact k d1 _ μ1 _ _ (e1.trans (Ext.lay w1 hp)) (w1.lay hp) (lay_tup w1 r1 hp) q1⟩
instance {t m} [h : FA K t m] : FE K (tLst t) (mLst m) := ⟨fun d σ H ρ μ P Q w e q k => by
  refine h.run d σ H ρ μ _ _ w e q fun d1 H1 μ1 xs vs e1 w1 r1 ⟨z, q1⟩ => ⟨by rw [← r1.length]; exact lim_lt z, fun p hp => ?_⟩
  exact k d1 _ μ1 _ _ (e1.trans (Ext.lay w1 hp)) (w1.lay hp) (lay_lst w1 r1 hp) q1⟩
instance {t m} [h : FA K t m] : FE K (tLstM t) (mLstM m) := ⟨fun d σ H ρ μ P Q w e q k => by
  refine h.run d σ H ρ μ _ _ w e q fun d1 H1 μ1 xs vs e1 w1 r1 ⟨z, q1⟩ => ⟨by rw [← r1.length]; exact lim_lt z, fun p hp => ?_⟩
  have ee := Ext.push (o := .lst vs) w1 hp
  exact k (d1.push p) _ _ _ _ (e1.trans ee) (w1.push (m := .lst xs) hp ⟨vs, upd_same, r1.mono ee⟩) (lay_mr w1) q1⟩
def mNext : MS := fun P ρ μ => P.nx ρ μ
def mSeq (a b : MS) : MS := fun P ρ μ => a { P with nx := b P } ρ μ
instance : FS K tNext mNext := ⟨fun d σ H ρ μ P D w e q l => l.nx d σ H ρ μ .refl w e q⟩
instance {a b ma mb} [ha : FS K a ma] [hb : FS K b mb] : FS K (tSeq a b) (mSeq ma mb) := ⟨fun d σ H ρ μ P D w e q l =>
  ha.run d σ H ρ μ _ _ w e q ⟨fun d1 σ1 H1 ρ1 μ1 e1 w1 r1 q1 => hb.run d1 σ1 H1 ρ1 μ1 P D w1 r1 q1 (l.mono e1), l.rt, l.bk, l.ct⟩⟩
def mBreak : MS := fun P ρ μ => P.bk ρ μ
def mCont : MS := fun P ρ μ => P.ct ρ μ
instance : FS K tBreak mBreak := ⟨fun d σ H ρ μ P D w e q l => l.bk d σ H ρ μ .refl w e q⟩
instance : FS K tCont mCont := ⟨fun d σ H ρ μ P D w e q l => l.ct d σ H ρ μ .refl w e q⟩
def mDrop (m : ME) : MS := fun P ρ μ => m ρ μ fun _ μ1 => P.nx ρ μ1
instance {t m} [h : FE K t m] : FS K (tDrop t) (mDrop m) := ⟨fun d σ H ρ μ P D w e q l =>
  h.run d σ H ρ μ _ _ w e q fun d1 H1 μ1 x v e1 w1 r1 q1 => l.nx d1 σ H1 ρ μ1 e1 w1 (e.mono e1) q1⟩
def mRet (m : ME) : MS := fun P ρ μ => m ρ μ P.rt
instance {t m} [h : FE K t m] : FS K (tRet t) (mRet m) := ⟨fun d σ H ρ μ P D w e q l =>
  h.run d σ H ρ μ _ _ w e q fun d1 H1 μ1 x v e1 w1 r1 q1 => l.rt d1 H1 μ1 x v e1 w1 r1 q1⟩
def mRetN : MS := fun P ρ μ => P.rt .non μ
instance : FS K tRetN mRetN := ⟨fun d σ H ρ μ P D w e q l => l.rt d H μ .non .non .refl w .non q⟩
def mIfS (c : MT) (a b : MS) : MS := fun P ρ μ => c ρ μ fun x μ1 => if x = true then a P ρ μ1 else b P ρ μ1
instance {c a b mc ma mb} [hc : FT K c mc] [ha : FS K a ma] [hb : FS K b mb] : FS K (tIfS c a b) (mIfS mc ma mb) := ⟨fun d σ H ρ μ P D w e q l => by
  refine hc.run d σ H ρ μ _ _ w e q fun d1 H1 μ1 x e1 w1 q1 => ?_
  cases x
  · exact hb.run d1 σ H1 ρ μ1 P D w1 (e.mono e1) q1 (l.mono e1)
  · exact ha.run d1 σ H1 ρ μ1 P D w1 (e.mono e1) q1 (l.mono e1)⟩
def mNever : MS := fun _ _ _ => False
instance : FS K tNever mNever := ⟨fun d σ H ρ μ P D w e q l => q⟩
def mName (i : Nat) : MG := fun x ρ μ P => P (ρ.set i (some x)) μ
instance {i} : FG K (gName i) (mName i) [i] := ⟨fun d σ H ρ μ x v P Q w e r q k =>
  k d _ H _ μ .refl w (e.set r i) (by rw [List.length_set]) (fun j hj => by rw [List.getElem?_set_ne (by intro z; subst z; simp at hj)]) q⟩
def mGNil : MGs := fun xs ρ μ P => match xs with | [] => P ρ μ | _ => False
def mGCons (a : MG) (b : MGs) : MGs := fun xs ρ μ P => match xs with | x :: r => a x ρ μ fun ρ1 μ1 => b r ρ1 μ1 P | _ => False
instance : FGs K gNil mGNil [] := ⟨fun d σ H ρ μ xs vs P Q w e r q k => by
  cases xs
  · cases r; exact ⟨rfl, k d σ H ρ μ .refl w e rfl (fun _ _ => rfl) q⟩
  · exact q.elim⟩
instance {t m s u n s'} [h : FG K t m s] [h' : FGs K u n s'] : FGs K (gCons t u) (mGCons m n) (s ++ s') := ⟨fun d σ H ρ μ xs vs P Q w e r q k => by
  cases xs
  · exact q.elim
  · cases r with
    | cons r1 r2 =>
      refine ⟨_, _, rfl, h.run d σ H ρ μ _ _ _ _ w e r1 q fun d1 σ1 H1 ρ1 μ1 e1 w1 ee1 l1 u1 q1 => ?_⟩
      refine h'.run d1 σ1 H1 ρ1 μ1 _ _ _ _ w1 ee1 (r2.mono e1) q1 fun d2 σ2 H2 ρ2 μ2 e2 w2 ee2 l2 u2 q2 => ?_
      exact k d2 σ2 H2 ρ2 μ2 (e1.trans e2) w2 ee2 (l2.trans l1) (fun i hi => (u2 i fun z => hi (List.mem_append_right _ z)).trans (u1 i fun z => hi (List.mem_append_left _ z))) q2⟩
def mGTup (n : Nat) (t : MGs) : MG := fun x ρ μ P => match x with | .tup xs => xs.length = n ∧ t xs ρ μ P | _ => False
instance {n t m s} [h : FGs K t m s] : FG K (gTup K n t) (mGTup n m) s := ⟨fun d σ H ρ μ x v P Q w e r q k => by
  cases x <;> try exact q.elim
  cases r with
  | tup ha hr => exact ⟨_, _, rfl, ha.sq, by rw [← hr.length]; exact q.1, h.run d σ H ρ μ _ _ _ _ w e hr q.2 k⟩⟩
def mAsg (m : ME) (g : MG) : MS := fun P ρ μ => m ρ μ fun x μ1 => g x ρ μ1 P.nx
instance {t m g n s} [h : FE K t m] [h' : FG K g n s] : FS K (tAsg t g) (mAsg m n) := ⟨fun d σ H ρ μ P D w e q l => by
  refine h.run d σ H ρ μ _ _ w e q fun d1 H1 μ1 x v e1 w1 r1 q1 => ?_
  exact h'.run d1 σ H1 ρ μ1 x v _ _ w1 (e.mono e1) r1 q1 fun d2 σ2 H2 ρ2 μ2 e2 w2 ee2 _ _ q2 => l.nx d2 σ2 H2 ρ2 μ2 (e1.trans e2) w2 ee2 q2⟩
def mPar (i j : Nat) (t : MA) : MS := fun P ρ μ => t ρ μ fun xs μ1 => match xs with | [x, y] => P.nx ((ρ.set i (some x)).set j (some y)) μ1 | _ => False
instance {i j t m} [h : FA K t m] : FS K (tPar i j t) (mPar i j m) := ⟨fun d σ H ρ μ P D w e q l => by
  refine h.run d σ H ρ μ _ _ w e q fun d1 H1 μ1 xs vs e1 w1 r1 q1 => ?_
  match xs, r1, q1 with
  | [x, y], .cons (v := v) a (.cons (v := u) b .nil), q1 => exact ⟨v, u, rfl, l.nx d1 _ H1 _ μ1 e1 w1 (((e.mono e1).set a i).set b j) q1⟩⟩
def mPar3 (i j k : Nat) (t : MA) : MS := fun P ρ μ => t ρ μ fun xs μ1 => match xs with | [x, y, z] => P.nx (((ρ.set i (some x)).set j (some y)).set k (some z)) μ1 | _ => False
instance {i j k t m} [h : FA K t m] : FS K (tPar3 i j k t) (mPar3 i j k m) := ⟨fun d σ H ρ μ P D w e q l => by
  refine h.run d σ H ρ μ _ _ w e q fun d1 H1 μ1 xs vs e1 w1 r1 q1 => ?_
  match xs, r1, q1 with
  | [x, y, z], .cons (v := v) a (.cons (v := u) b (.cons (v := t) c .nil)), q1 => exact ⟨v, u, t, rfl, l.nx d1 _ H1 _ μ1 e1 w1 ((((e.mono e1).set a i).set b j).set c k) q1⟩⟩
def mAsg2 (m : ME) (g h : MG) : MS := fun P ρ μ => m ρ μ fun x μ1 => g x ρ μ1 fun ρ1 μ2 => h x ρ1 μ2 P.nx
instance {t m g n s g' n' s'} [h : FE K t m] [h1 : FG K g n s] [h2 : FG K g' n' s'] : FS K (tAsg2 t g g') (mAsg2 m n n') := ⟨fun d σ H ρ μ P D w e q l => by
  refine h.run d σ H ρ μ _ _ w e q fun d1 H1 μ1 x v e1 w1 r1 q1 => ?_
  refine h1.run d1 σ H1 ρ μ1 x v _ _ w1 (e.mono e1) r1 q1 fun d2 σ2 H2 ρ2 μ2 e2 w2 ee2 _ _ q2 => ?_
  exact h2.run d2 σ2 H2 ρ2 μ2 x v _ _ w2 ee2 (r1.mono e2) q2 fun d3 σ3 H3 ρ3 μ3 e3 w3 ee3 _ _ q3 => l.nx d3 σ3 H3 ρ3 μ3 ((e1.trans e2).trans e3) w3 ee3 q3⟩
end
end Fx
namespace Fx
open PySem PySem.Spec PyProof.Rows L2
section
variable {K : PySem.W.Frag} {d d' : Wd} {H H' : Hp} {a : Addr} {vs : List V} {μ : Store}
theorem Bars.refl : Bars d d H := ⟨rfl, fun _ h => .inl h⟩
mutual
theorem RV.bars (b : Bars d d' H) : ∀ {x : PV} {v : V}, RV K d H x v → RV K d' H x v
  | _, _, .non => .non
  | _, _, .bl b => .bl b
  | _, _, .int i => .int i
  | _, _, .str x => .str x
  | _, _, .ty n => .ty n
  | _, _, .tup h r => .tup (h.imp (fun z => ⟨z.1, by rw [b.1]; exact z.2⟩) id) (RVs.bars b r)
  | _, _, .lst h r => .lst ⟨h.1, by rw [b.1]; exact h.2.1, fun q => (b.2 _ q).elim h.2.2 (by rw [h.1]; simp)⟩ (RVs.bars b r)
  | _, _, .kl h r => .kl (h.imp (fun z => ⟨z.1, by rw [b.1]; exact z.2.1, fun q => (b.2 _ q).elim z.2.2 (Rd.ne z.1)⟩) id) (RVs.bars b r)
  | _, _, .mr h => .mr (by rw [b.1]; exact h)
theorem RVs.bars (b : Bars d d' H) : ∀ {xs : List PV} {vs : List V}, RVs K d H xs vs → RVs K d' H xs vs
  | _, _, .nil => .nil
  | _, _, .cons r t => .cons (RV.bars b r) (RVs.bars b t)
end
theorem no_tup {D : Addr} {as : List V} (h : H D = some (.lst as)) : ∀ ts, ¬ Rd H D (.tup ts) := fun ts z => by
  rcases z with q | ⟨o, q⟩ <;> rw [h] at q <;> cases q
theorem no_tupK {D : Addr} {as : List (Key × V)} (h : H D = some (.dK as)) : ∀ ts, ¬ Rd H D (.tup ts) := fun ts z => by
  rcases z with q | ⟨o, q⟩ <;> rw [h] at q <;> cases q
theorem Rd_upd {u o : HO} {D : Addr} (r : Rd H a u) (h : a ≠ D) : Rd (upd H D o) a u := by
  rcases r with r | ⟨o', r⟩
  · exact .inl (by rw [upd_ne h]; exact r)
  · exact .inr ⟨o', by rw [upd_ne h]; exact r⟩
mutual
theorem RV.made {D : Addr} {o : HO} (hb : D ∈ d.ban) (hD : ∀ ts, ¬ Rd H D (.tup ts)) : ∀ {x : PV} {v : V}, RV K d H x v → RV K d (upd H D o) x v
  | _, _, .non => .non
  | _, _, .bl b => .bl b
  | _, _, .int i => .int i
  | _, _, .str x => .str x
  | _, _, .ty n => .ty n
  | _, _, .tup h r => .tup (h.imp (fun z => ⟨Rd_upd z.1 (by rintro rfl; exact hD _ z.1), z.2⟩) id) (RVs.made hb hD r)
  | _, _, .lst h r => .lst ⟨by rw [upd_ne (by rintro rfl; exact h.2.2 hb)]; exact h.1, h.2⟩ (RVs.made hb hD r)
  | _, _, .kl h r => .kl (h.imp (fun z => ⟨Rd_upd z.1 (by rintro rfl; exact z.2.2 hb), z.2⟩) id) (RVs.made hb hD r)
  | _, _, .mr h => .mr h
theorem RVs.made {D : Addr} {o : HO} (hb : D ∈ d.ban) (hD : ∀ ts, ¬ Rd H D (.tup ts)) : ∀ {xs : List PV} {vs : List V}, RVs K d H xs vs → RVs K d (upd H D o) xs vs
  | _, _, .nil => .nil
  | _, _, .cons r t => .cons (RV.made hb hD r) (RVs.made hb hD t)
end
theorem MOK.made {D : Addr} {o : HO} (hb : D ∈ d.ban) (hD : ∀ ts, ¬ Rd H D (.tup ts)) (hne : a ≠ D) {m : MO} (h : MOK K d H a m) : MOK K d (upd H D o) a m := by
  cases m with
  | lst xs => obtain ⟨vs, q, r⟩ := h; exact ⟨vs, by rw [upd_ne hne]; exact q, r.made hb hD⟩
  | dk kvs => obtain ⟨vs, q, r1, r2⟩ := h; exact ⟨vs, by rw [upd_ne hne]; exact q, r1, r2.made hb hD⟩
  | fd o ws kvs => obtain ⟨q, r1, r2⟩ := h; exact ⟨by rw [upd_ne hne]; exact q, r1, r2.made hb hD⟩
  | tk kvs => obtain ⟨vs, q, r0, r1, r2⟩ := h; exact ⟨vs, by rw [upd_ne hne]; exact q, r0, r1.made hb hD, r2.made hb hD⟩
  | ft o ws kvs => obtain ⟨q, r0, r1, r2⟩ := h; exact ⟨by rw [upd_ne hne]; exact q, r0, r1.made hb hD, r2.made hb hD⟩
theorem WOk.made {D : Addr} {o : HO} (w : WOk K d H μ) (hb : D ∈ d.ban) (hD : ∀ ts, ¬ Rd H D (.tup ts)) : WOk K d (upd H D o) μ := by
  refine ⟨w.len, w.nd, fun i b m h1 h2 => ?_, fun b hb' => ?_⟩
  · have hne : b ≠ D := by
      rintro rfl
      exact (w.ban _ hb).2 (List.mem_of_getElem? h1)
    exact (w.ob i b m h1 h2).made hb hD hne
  · obtain ⟨x, y⟩ := w.ban b hb'
    refine ⟨?_, y⟩
    by_cases hne : b = D
    · subst hne; rw [upd_same]; simp
    · rw [upd_ne hne]; exact x
mutual
theorem RV.pushed {D : Addr} (hb : D ∈ d.ban) (hD : ∀ ts, ¬ Rd H D (.tup ts)) {bn : List Addr} (hs : ∀ b ∈ bn, b ∈ d.ban) : ∀ {x : PV} {v : V}, RV K d H x v → RV K ⟨d.am ++ [D], bn⟩ H x v
  | _, _, .non => .non
  | _, _, .bl b => .bl b
  | _, _, .int i => .int i
  | _, _, .str x => .str x
  | _, _, .ty n => .ty n
  | _, _, .tup h r => .tup (h.imp (fun z => ⟨z.1, fun q => (List.mem_append.mp q).elim z.2 (fun q => by
      have e := List.mem_singleton.mp q
      subst e
      exact hD _ z.1)⟩) id) (RVs.pushed hb hD hs r)
  | _, _, .lst h r => .lst ⟨h.1, fun q => (List.mem_append.mp q).elim h.2.1 (fun q => by
      have e := List.mem_singleton.mp q
      subst e
      exact h.2.2 hb), fun q => h.2.2 (hs _ q)⟩ (RVs.pushed hb hD hs r)
  | _, _, .kl h r => .kl (h.imp (fun z => ⟨z.1, fun q => (List.mem_append.mp q).elim z.2.1 (fun q => by
      have e := List.mem_singleton.mp q
      subst e
      exact z.2.2 hb), fun q => z.2.2 (hs _ q)⟩) id) (RVs.pushed hb hD hs r)
  | _, _, .mr h => .mr (by
      show (d.am ++ [D])[_]? = _
      rw [List.getElem?_append_left (List.getElem?_eq_some_iff.mp h).1]; exact h)
theorem RVs.pushed {D : Addr} (hb : D ∈ d.ban) (hD : ∀ ts, ¬ Rd H D (.tup ts)) {bn : List Addr} (hs : ∀ b ∈ bn, b ∈ d.ban) : ∀ {xs : List PV} {vs : List V}, RVs K d H xs vs → RVs K ⟨d.am ++ [D], bn⟩ H xs vs
  | _, _, .nil => .nil
  | _, _, .cons r t => .cons (RV.pushed hb hD hs r) (RVs.pushed hb hD hs t)
end
mutual
theorem RV.less {bn : List Addr} (hs : ∀ b ∈ bn, b ∈ d.ban) : ∀ {x : PV} {v : V}, RV K d H x v → RV K ⟨d.am, bn⟩ H x v
  | _, _, .non => .non
  | _, _, .bl b => .bl b
  | _, _, .int i => .int i
  | _, _, .str x => .str x
  | _, _, .ty n => .ty n
  | _, _, .tup h r => .tup h (RVs.less hs r)
  | _, _, .lst h r => .lst ⟨h.1, h.2.1, fun q => h.2.2 (hs _ q)⟩ (RVs.less hs r)
  | _, _, .kl h r => .kl (h.imp (fun z => ⟨z.1, z.2.1, fun q => z.2.2 (hs _ q)⟩) id) (RVs.less hs r)
  | _, _, .mr h => .mr h
theorem RVs.less {bn : List Addr} (hs : ∀ b ∈ bn, b ∈ d.ban) : ∀ {xs : List PV} {vs : List V}, RVs K d H xs vs → RVs K ⟨d.am, bn⟩ H xs vs
  | _, _, .nil => .nil
  | _, _, .cons r t => .cons (RV.less hs r) (RVs.less hs t)
end
theorem MOK.less {bn : List Addr} (hs : ∀ b ∈ bn, b ∈ d.ban) {m : MO} (h : MOK K d H a m) : MOK K ⟨d.am, bn⟩ H a m := by
  cases m with
  | lst xs => obtain ⟨vs, q, r⟩ := h; exact ⟨vs, q, r.less hs⟩
  | dk kvs => obtain ⟨vs, q, r1, r2⟩ := h; exact ⟨vs, q, r1, r2.less hs⟩
  | fd o ws kvs => obtain ⟨q, r1, r2⟩ := h; exact ⟨q, r1, r2.less hs⟩
  | tk kvs => obtain ⟨vs, q, r0, r1, r2⟩ := h; exact ⟨vs, q, r0, r1.less hs, r2.less hs⟩
  | ft o ws kvs => obtain ⟨q, r0, r1, r2⟩ := h; exact ⟨q, r0, r1.less hs, r2.less hs⟩
theorem WOk.less {bn : List Addr} (w : WOk K d H μ) (hs : ∀ b ∈ bn, b ∈ d.ban) : WOk K ⟨d.am, bn⟩ H μ :=
  ⟨w.len, w.nd, fun i b m h1 h2 => (w.ob i b m h1 h2).less hs, fun b hb => w.ban b (hs b hb)⟩
theorem MOK.pushed {D : Addr} (hb : D ∈ d.ban) (hD : ∀ ts, ¬ Rd H D (.tup ts)) {bn : List Addr} (hs : ∀ b ∈ bn, b ∈ d.ban) {m : MO} (h : MOK K d H a m) : MOK K ⟨d.am ++ [D], bn⟩ H a m := by
  cases m with
  | lst xs => obtain ⟨vs, q, r⟩ := h; exact ⟨vs, q, r.pushed hb hD hs⟩
  | dk kvs => obtain ⟨vs, q, r1, r2⟩ := h; exact ⟨vs, q, r1, r2.pushed hb hD hs⟩
  | fd o ws kvs => obtain ⟨q, r1, r2⟩ := h; exact ⟨q, r1, r2.pushed hb hD hs⟩
  | tk kvs => obtain ⟨vs, q, r0, r1, r2⟩ := h; exact ⟨vs, q, r0, r1.pushed hb hD hs, r2.pushed hb hD hs⟩
  | ft o ws kvs => obtain ⟨q, r0, r1, r2⟩ := h; exact ⟨q, r0, r1.pushed hb hD hs, r2.pushed hb hD hs⟩
theorem WOk.pushed {D : Addr} (w : WOk K d H μ) (hb : D ∈ d.ban) (hD : ∀ ts, ¬ Rd H D (.tup ts)) {bn : List Addr} (hs : ∀ b ∈ bn, b ∈ d.ban) (hn : D ∉ bn) {m : MO} (hm : MOK K ⟨d.am ++ [D], bn⟩ H D m) : WOk K ⟨d.am ++ [D], bn⟩ H (μ ++ [m]) := by
  have na := (w.ban D hb).2
  refine ⟨by simp [w.len], ?_, fun i b m' h1 h2 => ?_, fun b hb' => ?_⟩
  · show (d.am ++ [D]).Nodup
    rw [List.nodup_append]
    exact ⟨w.nd, by simp, fun x hx y hy => by
      have : y = D := by simpa using hy
      subst this; rintro rfl; exact na hx⟩
  · replace h1 : (d.am ++ [D])[i]? = some b := h1
    by_cases hi : i < d.am.length
    · rw [List.getElem?_append_left hi] at h1
      rw [List.getElem?_append_left (by rw [← w.len]; exact hi)] at h2
      exact (w.ob i b m' h1 h2).pushed hb hD hs
    · have hi2 : i = d.am.length := by
        have := (List.getElem?_eq_some_iff.mp h1).1
        simp at this; omega
      subst hi2
      rw [List.getElem?_append_right (Nat.le_refl _)] at h1
      rw [w.len, List.getElem?_append_right (Nat.le_refl _)] at h2
      simp at h1 h2
      subst h1; subst h2
      exact hm
  · obtain ⟨x, y⟩ := w.ban b (hs b hb')
    exact ⟨x, fun z => (List.mem_append.mp z).elim y (fun z => by
      have e : b = D := by simpa using z
      subst e; exact hn hb')⟩
def mForL (g : MG) (b : MS) (P : MEnds) : List PV → PEnv → Store → Prop
  | [], ρ, μ => P.nx ρ μ
  | x :: xs, ρ, μ => g x ρ μ fun ρ1 μ1 => b { P with nx := mForL g b P xs, ct := mForL g b P xs, bk := P.nx } ρ1 μ1
def mFor (mi : MI) (g : MG) (b : MS) : MS := fun P ρ μ => mi ρ μ fun xs μ1 => mForL g b P xs ρ μ1
theorem drop_cons {α : Type} {xs : List α} {i : Nat} {x : α} (h : xs[i]? = some x) : xs.drop i = x :: xs.drop (i + 1) := by
  obtain ⟨hl, e⟩ := List.getElem?_eq_some_iff.mp h
  rw [List.drop_eq_getElem_cons hl, e]
instance {wi mi g mg s tb mb} [hi : FI K wi mi] [hg : FG K g mg s] [hb : FS K tb mb] : FS K (tFor wi g tb) (mFor mi mg mb) := ⟨fun d σ H ρ μ P D w e q l => by
  refine hi.run d σ H ρ μ _ _ w e q fun d1 H1 μ1 J xs e1 w1 it q1 => ?_
  refine ⟨fun i m σ' H' => ∃ d' ρ' μ', Ext d1 H1 d' H' ∧ WOk K d' H' μ' ∧ REnv K d' H' ρ' σ' ∧ i + m = xs.length ∧ mForL mg mb P (xs.drop i) ρ' μ', ⟨xs.length, d1, ρ, μ1, .refl, w1, e.mono e1, by omega, by simpa using q1⟩, fun i m σ' H' hW => ?_⟩
  obtain ⟨d2, ρ2, μ2, e2, w2, ee2, em, q2⟩ := hW
  obtain ⟨itg, its⟩ := it d1 d2 H' μ2 .refl e2 w2
  cases hx : xs[i]? with
  | none =>
    have hle : xs.length ≤ i := List.getElem?_eq_none_iff.mp hx
    rw [List.drop_of_length_le hle] at q2
    exact .inl ⟨its i hle, l.nx d2 σ' H' ρ2 μ2 (e1.trans e2) w2 ee2 q2⟩
  | some x =>
    have hlt : i < xs.length := (List.getElem?_eq_some_iff.mp hx).1
    rw [drop_cons hx] at q2
    obtain ⟨go, yl⟩ := itg i x hx
    refine .inr ⟨go, fun σ3 H3 => ∃ d' ρ' μ', Ext d1 H1 d' H3 ∧ WOk K d' H3 μ' ∧ REnv K d' H3 ρ' σ3 ∧ mForL mg mb P (xs.drop (i + 1)) ρ' μ', fun σ3 H3 hN => ?_, fun v H3 hy => ?_⟩
    · obtain ⟨d3, ρ3, μ3, a1, a2, a3, a4⟩ := hN
      exact ⟨m - 1, by omega, d3, ρ3, μ3, a1, a2, a3, by omega, a4⟩
    · obtain ⟨ey, wy, ry⟩ := yl v H3 hy
      refine hg.run d2 σ' H3 ρ2 μ2 x v _ _ wy (ee2.mono ey) ry q2 fun d4 σ4 H4 ρ4 μ4 e4 w4 ee4 _ _ q4 => ?_
      have E4 : Ext d H d4 H4 := ((e1.trans e2).trans ey).trans e4
      have E4' : Ext d1 H1 d4 H4 := (e2.trans ey).trans e4
      exact hb.run d4 σ4 H4 ρ4 μ4 _ _ w4 ee4 q4
        ⟨fun d5 σ5 H5 ρ5 μ5 e5 w5 ee5 q5 => ⟨d5, ρ5, μ5, E4'.trans e5, w5, ee5, q5⟩, fun d5 H5 μ5 x v e5 => l.rt d5 H5 μ5 x v (E4.trans e5),
         fun d5 σ5 H5 ρ5 μ5 e5 => l.nx d5 σ5 H5 ρ5 μ5 (E4.trans e5), fun d5 σ5 H5 ρ5 μ5 e5 w5 ee5 q5 => ⟨d5, ρ5, μ5, E4'.trans e5, w5, ee5, q5⟩⟩⟩
def mWhile (c : MT) (b : MS) : MS := fun P ρ μ => ∃ W : Nat → PEnv → Store → Prop, (∃ n, W n ρ μ) ∧ ∀ n ρ μ, W n ρ μ →
  c ρ μ fun x μ1 => if x = true then b { P with nx := fun ρ' μ' => ∃ n', n' < n ∧ W n' ρ' μ', ct := fun ρ' μ' => ∃ n', n' < n ∧ W n' ρ' μ', bk := P.nx } ρ μ1 else P.nx ρ μ1
instance {tc mc tb mb} [hc : FT K tc mc] [hb : FS K tb mb] : FS K (tWhile tc tb) (mWhile mc mb) := ⟨fun d σ H ρ μ P D w e q l => by
  obtain ⟨W, ⟨n0, w0⟩, turn⟩ := q
  refine ⟨fun n σ' H' => ∃ d' ρ' μ', Ext d H d' H' ∧ WOk K d' H' μ' ∧ REnv K d' H' ρ' σ' ∧ W n ρ' μ', ⟨n0, d, ρ, μ, .refl, w, e, w0⟩, fun n σ' H' hW => ?_⟩
  obtain ⟨d1, ρ1, μ1, e1, w1, ee1, q1⟩ := hW
  refine hc.run d1 σ' H' ρ1 μ1 _ _ w1 ee1 (turn n ρ1 μ1 q1) fun d2 H2 μ2 x e2 w2 q2 => ?_
  have E2 : Ext d H d2 H2 := e1.trans e2
  cases x
  · exact l.nx d2 σ' H2 ρ1 μ2 E2 w2 (ee1.mono e2) q2
  · refine ⟨fun σ3 H3 => ∃ n', n' < n ∧ ∃ d' ρ' μ', Ext d H d' H3 ∧ WOk K d' H3 μ' ∧ REnv K d' H3 ρ' σ3 ∧ W n' ρ' μ', fun σ3 H3 h => h, ?_⟩
    exact hb.run d2 σ' H2 ρ1 μ2 _ _ w2 (ee1.mono e2) q2
      ⟨fun d5 σ5 H5 ρ5 μ5 e5 w5 ee5 ⟨n', hn, q5⟩ => ⟨n', hn, d5, ρ5, μ5, E2.trans e5, w5, ee5, q5⟩, fun d5 H5 μ5 x v e5 => l.rt d5 H5 μ5 x v (E2.trans e5),
       fun d5 σ5 H5 ρ5 μ5 e5 => l.nx d5 σ5 H5 ρ5 μ5 (E2.trans e5), fun d5 σ5 H5 ρ5 μ5 e5 w5 ee5 ⟨n', hn, q5⟩ => ⟨n', hn, d5, ρ5, μ5, E2.trans e5, w5, ee5, q5⟩⟩⟩
def wipeP (ρ : PEnv) : List Nat → PEnv
  | [] => ρ
  | v :: vs => (wipeP ρ vs).set v none
theorem wipe_get (σ : L2.St) (i : Nat) : ∀ vs : List Nat, (wipe σ vs)[i]? = if i ∈ vs then (if i < σ.length then some none else none) else σ[i]?
  | [] => by simp [wipe]
  | v :: vs => by
    show ((wipe σ vs).set v none)[i]? = _
    rw [List.getElem?_set, wipe_get σ i vs, wipe_length]
    by_cases h : v = i
    · subst h
      rw [if_pos rfl, if_pos (List.mem_cons_self)]
    · rw [if_neg h]
      have e : (i ∈ v :: vs) = (i ∈ vs) := by
        simp [Ne.symm h]
      simp only [e]
theorem wipe_same {σ σ' : L2.St} {vs sl : List Nat} (hl : σ'.length = (wipe σ vs).length) (h : ∀ i, i ∉ sl → σ'[i]? = (wipe σ vs)[i]?) (hs : ∀ i ∈ sl, i ∈ vs) : wipe σ' vs = wipe σ vs := by
  rw [wipe_length] at hl
  apply List.ext_getElem?
  intro i
  rw [wipe_get, wipe_get, hl]
  by_cases hi : i ∈ vs
  · rw [if_pos hi, if_pos hi]
  · rw [if_neg hi, if_neg hi, h i (fun z => hi (hs i z)), wipe_get, if_neg hi]
theorem REnv.wipe {ρ : PEnv} {σ : L2.St} (e : REnv K d H ρ σ) : ∀ vs : List Nat, REnv K d H (wipeP ρ vs) (wipe σ vs)
  | [] => e
  | v :: vs => (REnv.wipe e vs).unset v
theorem REnv.bars {ρ : PEnv} {σ : L2.St} (b : Bars d d' H) (e : REnv K d H ρ σ) : REnv K d' H ρ σ :=
  ⟨e.1, fun i x q => let ⟨v, a, c⟩ := e.2 i x q; ⟨v, a, c.bars b⟩⟩
theorem WOk.barD {D : Addr} (w : WOk K d H μ) (h : H D = none) : WOk K ⟨d.am, D :: d.ban⟩ (upd H D (.lst [])) μ := by
  have b : Bars d ⟨d.am, D :: d.ban⟩ H := ⟨rfl, fun x q => (List.mem_cons.mp q).elim (fun z => .inr (by rw [z]; exact h)) .inl⟩
  refine ⟨w.len, w.nd, fun i a m h1 h2 => ?_, fun x hx => ?_⟩
  · have hm := w.ob i a m h1 h2
    have hne : a ≠ D := by rintro rfl; exact w.notin h (List.mem_of_getElem? h1)
    have e : Ext ⟨d.am, D :: d.ban⟩ H ⟨d.am, D :: d.ban⟩ (upd H D (.lst [])) := ⟨⟨[], by simp, fun p hp => by simp at hp⟩, rfl, fun b u e _ => by rw [upd_ne (ne_of_none e h)]; exact e⟩
    cases m with
    | lst xs => obtain ⟨vs, q, r⟩ := hm; exact ⟨vs, by rw [upd_ne hne]; exact q, (r.bars b).mono e⟩
    | dk kvs => obtain ⟨vs, q, r1, r2⟩ := hm; exact ⟨vs, by rw [upd_ne hne]; exact q, r1, (r2.bars b).mono e⟩
    | fd o ws kvs => obtain ⟨q, r1, r2⟩ := hm; exact ⟨by rw [upd_ne hne]; exact q, r1, (r2.bars b).mono e⟩
    | tk kvs => obtain ⟨vs, q, r0, r1, r2⟩ := hm; exact ⟨vs, by rw [upd_ne hne]; exact q, r0, (r1.bars b).mono e, (r2.bars b).mono e⟩
    | ft o ws kvs => obtain ⟨q, r0, r1, r2⟩ := hm; exact ⟨by rw [upd_ne hne]; exact q, r0, (r1.bars b).mono e, (r2.bars b).mono e⟩
  · rcases List.mem_cons.mp hx with z | z
    · subst z
      exact ⟨by rw [upd_same]; simp, w.notin h⟩
    · obtain ⟨q1, q2⟩ := w.ban x z
      refine ⟨?_, q2⟩
      have hne : x ≠ D := by rintro rfl; exact q1 h
      rw [upd_ne hne]; exact q1
def mLcL (g : MG) (c : MT) (e : ME) (ρ0 : PEnv) (P : List PV → Store → Prop) : List PV → List PV → Store → Prop
  | [], acc, μ => P acc μ
  | x :: xs, acc, μ => g x ρ0 μ fun ρ1 μ1 => c ρ1 μ1 fun b μ2 => if b = true then e ρ1 μ2 fun y μ3 => mLcL g c e ρ0 P xs (acc ++ [y]) μ3 else mLcL g c e ρ0 P xs acc μ2
theorem lc_run {wi mi g mg s tt mt te me} {vs : List Nat} [hi : FI K wi mi] [hg : FG K g mg s] [hc : FT K tt mt] [he : FE K te me] {σ : L2.St} {ρ : PEnv} {P : List PV → Store → Prop} {Q : VK} (w : WOk K d H μ) (e : REnv K d H ρ σ) (hs : ∀ i ∈ s, i ∈ vs)
    (q : mi ρ μ fun xs μ1 => xs.length ≤ lim ∧ mLcL mg mt me (wipeP ρ vs) P xs [] μ1)
    (fin : ∀ (d1 : Wd) (H1 : Hp) (D : Addr) (dB : Wd) (H' : Hp) (μ' : Store) (acc : List PV) (avs : List V), Ext d H d1 H1 → H1 D = none → D ∉ d1.ban → Ext ⟨d1.am, D :: d1.ban⟩ H1 dB H' → WOk K dB H' μ' → H' D = some (.lst avs) → RVs K dB H' acc avs → P acc μ' → Q (.ref D) H') :
    tLc wi g tt te vs σ H Q := by
  refine hi.run d σ H ρ μ _ _ w e q fun d1 H1 μ1 J xs e1 w1 it ⟨hz, q1⟩ => ?_
  intro D hD
  have bD : Bars d1 ⟨d1.am, D :: d1.ban⟩ H1 := ⟨rfl, fun x q => (List.mem_cons.mp q).elim (fun z => .inr (by rw [z]; exact hD)) .inl⟩
  have envB : REnv K ⟨d1.am, D :: d1.ban⟩ H1 (wipeP ρ vs) (wipe σ vs) := ((e.mono e1).bars bD).wipe vs
  have lay0 : Ext ⟨d1.am, D :: d1.ban⟩ H1 ⟨d1.am, D :: d1.ban⟩ (upd H1 D (.lst [])) := ⟨⟨[], by simp, fun p hp => by simp at hp⟩, rfl, fun b u e _ => by rw [upd_ne (ne_of_none e hD)]; exact e⟩
  refine ⟨fun i m H' => ∃ dB μ' acc avs, Ext ⟨d1.am, D :: d1.ban⟩ H1 dB H' ∧ WOk K dB H' μ' ∧ H' D = some (.lst avs) ∧ RVs K dB H' acc avs ∧ i + m = xs.length ∧ acc.length ≤ i ∧ mLcL mg mt me (wipeP ρ vs) P (xs.drop i) acc μ',
    ⟨xs.length, _, μ1, [], [], lay0, w1.barD hD, upd_same, .nil, by omega, Nat.le_refl _, by simpa using q1⟩, fun i m H' hW => ?_⟩
  obtain ⟨dB, μ', acc, avs, eB, wB, hDv, rA, em, hal, q2⟩ := hW
  have hDban : D ∈ dB.ban := by rw [eB.ban]; exact List.mem_cons_self
  obtain ⟨itg, its⟩ := it _ dB H' μ' bD eB wB
  cases hx : xs[i]? with
  | none =>
    have hle : xs.length ≤ i := List.getElem?_eq_none_iff.mp hx
    rw [List.drop_of_length_le hle] at q2
    exact .inl ⟨its i hle, fin d1 H1 D dB H' μ' acc avs e1 hD (w1.notban hD) eB wB hDv rA q2⟩
  | some x =>
    have hlt : i < xs.length := (List.getElem?_eq_some_iff.mp hx).1
    rw [drop_cons hx] at q2
    obtain ⟨go, yl⟩ := itg i x hx
    refine .inr ⟨go, fun H3 => ∃ dB μ' acc avs, Ext ⟨d1.am, D :: d1.ban⟩ H1 dB H3 ∧ WOk K dB H3 μ' ∧ H3 D = some (.lst avs) ∧ RVs K dB H3 acc avs ∧ acc.length ≤ i + 1 ∧ mLcL mg mt me (wipeP ρ vs) P (xs.drop (i + 1)) acc μ', fun H3 hN => ?_, fun v H3 hy => ?_⟩
    · obtain ⟨a1, a2, a3, a4, a5, a6, a7, a8, a9, a10⟩ := hN
      exact ⟨m - 1, by omega, a1, a2, a3, a4, a5, a6, a7, a8, by omega, a9, a10⟩
    · obtain ⟨ey, wy, ry⟩ := yl v H3 hy
      refine hg.run dB (wipe σ vs) H3 (wipeP ρ vs) μ' x v _ _ wy (envB.mono (eB.trans ey)) ry q2 fun d4 σ4 H4 ρ4 μ4 e4 w4 ee4 hl4 hs4 q4 => ⟨wipe_same hl4 hs4 hs, ?_⟩
      refine hc.run d4 σ4 H4 ρ4 μ4 _ _ w4 ee4 q4 fun d5 H5 μ5 b e5 w5 q5 => ?_
      have nD : D ∉ dB.am := (wB.ban D hDban).2
      have E5 : Ext dB H' d5 H5 := (ey.trans e4).trans e5
      cases b
      · exact ⟨d5, μ5, acc, avs, eB.trans E5, w5, E5.keep _ _ hDv nD, rA.mono E5, by omega, q5⟩
      · refine he.run d5 σ4 H5 ρ4 μ5 _ _ w5 (ee4.mono e5) q5 fun d6 H6 μ6 y u e6 w6 r6 q6 => ?_
        have E6 : Ext dB H' d6 H6 := E5.trans e6
        have hD6 : H6 D = some (.lst avs) := E6.keep _ _ hDv nD
        have ban6 : D ∈ d6.ban := by rw [E6.ban]; exact hDban
        have rA6 := (rA.mono E6).append (.cons r6 .nil)
        refine ⟨avs, hD6, by rw [← rA.length]; exact lim_lt' (by omega), d6, μ6, acc ++ [y], avs ++ [u], ?_, w6.made ban6 (no_tup hD6), upd_same, rA6.made ban6 (no_tup hD6), by rw [List.length_append]; simp; omega, q6⟩
        have E7 := eB.trans E6
        exact ⟨E7.am, E7.ban, fun b o hb hn => by rw [upd_ne (ne_of_none hb hD)]; exact E7.keep b o hb hn⟩
theorem lc_frozen {d1 dB : Wd} {H1 : Hp} {D : Addr} {acc : List PV} {avs : List V} (e1 : Ext d H d1 H1) (hD : H1 D = none) (hDn : D ∉ d1.ban) (eB : Ext ⟨d1.am, D :: d1.ban⟩ H1 dB H') (w : WOk K dB H' μ) (hv : H' D = some (.lst avs)) (r : RVs K dB H' acc avs) :
    Ext d H ⟨dB.am, d1.ban⟩ H' ∧ WOk K ⟨dB.am, d1.ban⟩ H' μ ∧ RV K ⟨dB.am, d1.ban⟩ H' (.lst acc) (.ref D) := by
  have hs : ∀ b ∈ d1.ban, b ∈ dB.ban := fun b hb => by rw [eB.ban]; exact List.mem_cons_of_mem _ hb
  have hb : D ∈ dB.ban := by rw [eB.ban]; exact List.mem_cons_self
  refine ⟨e1.trans ⟨eB.am, rfl, eB.keep⟩, w.less hs, .lst ⟨hv, (w.ban D hb).2, hDn⟩ (r.less hs)⟩
theorem lc_store {d1 dB : Wd} {H1 : Hp} {D : Addr} {acc : List PV} {avs : List V} (e1 : Ext d H d1 H1) (hD : H1 D = none) (hDn : D ∉ d1.ban) (eB : Ext ⟨d1.am, D :: d1.ban⟩ H1 dB H') (w : WOk K dB H' μ) (hv : H' D = some (.lst avs)) (r : RVs K dB H' acc avs) :
    Ext d H ⟨dB.am ++ [D], d1.ban⟩ H' ∧ WOk K ⟨dB.am ++ [D], d1.ban⟩ H' (μ ++ [.lst acc]) ∧ RV K ⟨dB.am ++ [D], d1.ban⟩ H' (.mr μ.length) (.ref D) := by
  have hs : ∀ b ∈ d1.ban, b ∈ dB.ban := fun b hb => by rw [eB.ban]; exact List.mem_cons_of_mem _ hb
  have hb : D ∈ dB.ban := by rw [eB.ban]; exact List.mem_cons_self
  have hn := (w.ban D hb).2
  have hm : MOK K ⟨dB.am ++ [D], d1.ban⟩ H' D (.lst acc) := ⟨avs, hv, r.pushed hb (no_tup hv) hs⟩
  refine ⟨e1.trans ⟨?_, rfl, eB.keep⟩, w.pushed hb (no_tup hv) hs hDn hm, .mr ?_⟩
  · obtain ⟨ex, q, f⟩ := eB.am
    refine ⟨ex ++ [D], by rw [q, List.append_assoc], fun p hp => ?_⟩
    rcases List.mem_append.mp hp with z | z
    · exact f p z
    · have e := List.mem_singleton.mp z
      subst e
      refine ⟨hD, fun z => hn ?_⟩
      rw [q]; exact List.mem_append_left _ z
  · show (dB.am ++ [D])[μ.length]? = some D
    rw [← w.len, List.getElem?_append_right (Nat.le_refl _)]
    simp
def mLc (mi : MI) (g : MG) (c : MT) (e : ME) (s vs : List Nat) : ME := fun ρ μ P => (∀ i ∈ s, i ∈ vs) ∧ mi ρ μ fun xs μ1 => xs.length ≤ lim ∧ mLcL g c e (wipeP ρ vs) (fun acc μ2 => P (.lst acc) μ2) xs [] μ1
def mLcM (mi : MI) (g : MG) (c : MT) (e : ME) (s vs : List Nat) : ME := fun ρ μ P => (∀ i ∈ s, i ∈ vs) ∧ mi ρ μ fun xs μ1 => xs.length ≤ lim ∧ mLcL g c e (wipeP ρ vs) (fun acc μ2 => P (.mr μ2.length) (μ2 ++ [.lst acc])) xs [] μ1
def tLcM (wi : TI) (g : TG) (tt : TT) (te : TE) (vs : List Nat) : TE := tLc wi g tt te vs
instance {wi mi g mg s tt mt te me vs} [hi : FI K wi mi] [hg : FG K g mg s] [hc : FT K tt mt] [he : FE K te me] : FE K (tLc wi g tt te vs) (mLc mi mg mt me s vs) := ⟨fun d σ H ρ μ P Q w e q k => by
  refine lc_run w e q.1 q.2 fun d1 H1 D dB H' μ' acc avs e1 hD hDn eB w' hv r p => ?_
  obtain ⟨x1, x2, x3⟩ := lc_frozen e1 hD hDn eB w' hv r
  exact k _ H' μ' _ _ x1 x2 x3 p⟩
instance {wi mi g mg s tt mt te me vs} [hi : FI K wi mi] [hg : FG K g mg s] [hc : FT K tt mt] [he : FE K te me] : FE K (tLcM wi g tt te vs) (mLcM mi mg mt me s vs) := ⟨fun d σ H ρ μ P Q w e q k => by
  refine lc_run w e q.1 q.2 fun d1 H1 D dB H' μ' acc avs e1 hD hDn eB w' hv r p => ?_
  obtain ⟨x1, x2, x3⟩ := lc_store e1 hD hDn eB w' hv r
  exact k _ H' _ _ _ x1 x2 x3 p⟩
end
end Fx
namespace Fx
open PySem PySem.Spec PyProof.Rows L2 RZ
def iSeq (K : PySem.W.Frag) (tl : TE) : TI := fun σ H R => tl σ H fun x H1 => ∃ a, x = .ref a ∧ (((∃ xs, SqL K H1 a xs) ∧ R (Itl K a) H1) ∨ ((∃ xs, SqT K H1 a xs) ∧ R (Itt K a) H1))
theorem pi_seq {X : Cx} {tg l : Expr} {tl : TE} (hl : PE X l tl) : PI X tg l (iSeq X.K tl) := by
  refine ⟨fun pins s σ H R I h => thn (hl.run pins s σ H _ I h) fun v s1 hq => ?_⟩
  obtain ⟨x, H1, I1, r1, a, e, q⟩ := hq
  subst e
  cases r1
  have fr : ∀ b ∈ [s1.heap.objs.size], FpOk X pins H1 b := fun b hb => by
    have e := List.mem_singleton.mp hb
    subst e
    exact I1.fpOk (Nat.le_refl _) (I1.hok.fresh (Nat.le_refl _))
  rcases q with ⟨⟨xs, hq⟩, q⟩ | ⟨⟨xs, hq⟩, q⟩
  · obtain ⟨its, rv, p, hz⟩ := I1.list hq
    refine wpAny_pyIter_list p.isList ?_
    exact ⟨_, _, _, _, H1, rfl, I1.kept (t' := s1.toks) fun b o e => Heap.get?_push_of_some _ e, turn_list a _, ⟨_, Heap.get?_push_size _ rfl, rfl, rfl⟩, fr, q⟩
  · obtain ⟨its, rv, p, hz⟩ := I1.tuple hq
    refine wpAny_pyIter_tuple (show s1.heap.IsTuple a its.toArray from p) ?_
    exact ⟨_, _, _, _, H1, rfl, I1.kept (t' := s1.toks) fun b o e => Heap.get?_push_of_some _ e, turn_tuple a _, ⟨_, Heap.get?_push_size _ rfl, rfl, rfl⟩, fr, q⟩
section
variable {K : PySem.W.Frag} {d d' : Wd} {H H' : Hp} {a b : Addr} {vs us : List V} {xs ys : List PV} {μ : Store}
theorem it_tup (h : TupAt K d H a vs) (r : RVs K d H xs vs) : ItOk (K := K) d H (Itt K a) xs := fun d1 d2 H2 μ2 bb e w => by
  have h2 : TupAt K d2 H2 a vs := e.tupAt (h.imp (fun z => ⟨z.1, by rw [bb.1]; exact z.2⟩) id)
  have r2 : RVs K d2 H2 xs vs := (r.bars bb).mono e
  refine ⟨fun i x hx => ?_, fun i hi => ⟨vs, h2.sq, by rw [← r2.length]; exact hi⟩⟩
  obtain ⟨v, hv, rv⟩ := r2.get hx
  refine ⟨⟨vs, v, h2.sq, hv⟩, fun u H3 hy => ?_⟩
  obtain ⟨rfl, f⟩ := hy
  have e1 := f vs h2.sq
  rw [hv] at e1; cases e1
  exact ⟨.refl, w, rv⟩
theorem it_kl (h : KlAt K d H a vs) (r : RVs K d H xs vs) : ItOk (K := K) d H (Itl K a) xs := fun d1 d2 H2 μ2 bb e w => by
  have h2 : KlAt K d2 H2 a vs := e.klAt (h.imp (fun z => ⟨z.1, by rw [bb.1]; exact z.2.1, fun q => (bb.2 _ q).elim z.2.2 (Rd.ne z.1)⟩) id)
  have r2 : RVs K d2 H2 xs vs := (r.bars bb).mono e
  refine ⟨fun i x hx => ?_, fun i hi => ⟨vs, h2.sq, by rw [← r2.length]; exact hi⟩⟩
  obtain ⟨v, hv, rv⟩ := r2.get hx
  refine ⟨⟨vs, v, h2.sq, hv⟩, fun u H3 hy => ?_⟩
  obtain ⟨rfl, f⟩ := hy
  have e1 := f vs h2.sq
  rw [hv] at e1; cases e1
  exact ⟨.refl, w, rv⟩
theorem it_lst (h : LstAt d H a vs) (r : RVs K d H xs vs) : ItOk (K := K) d H (Itl K a) xs := it_kl (.inl ⟨.inl h.1, h.2⟩) r
def mSeqI (m : ME) : MI := fun ρ μ P => m ρ μ fun x μ1 => match x with | .tup xs => P xs μ1 | .lst xs => P xs μ1 | .kl xs => P xs μ1 | _ => False
instance {t m} [h : FE K t m] : FI K (iSeq K t) (mSeqI m) := ⟨fun d σ H ρ μ P R w e q k => by
  refine h.run d σ H ρ μ _ _ w e q fun d1 H1 μ1 x v e1 w1 r1 q1 => ?_
  cases x <;> try exact q1.elim
  · cases r1 with
    | tup ha hr => exact ⟨_, rfl, .inr ⟨⟨_, ha.sq⟩, k d1 H1 μ1 _ _ e1 w1 (it_tup ha hr) q1⟩⟩
  · cases r1 with
    | lst ha hr => exact ⟨_, rfl, .inl ⟨⟨_, ha.sq⟩, k d1 H1 μ1 _ _ e1 w1 (it_lst ha hr) q1⟩⟩
  · cases r1 with
    | kl ha hr => exact ⟨_, rfl, .inl ⟨⟨_, ha.sq⟩, k d1 H1 μ1 _ _ e1 w1 (it_kl ha hr) q1⟩⟩⟩
def rangeP (lo : Int) (n : Nat) : List PV := (List.range n).map fun i => .int (lo + (i : Nat))
theorem rangeP_get {lo : Int} {n i : Nat} {x : PV} (h : (rangeP lo n)[i]? = some x) : i < n ∧ x = .int (lo + (i : Nat)) := by
  unfold rangeP at h
  rw [List.getElem?_map] at h
  cases e : (List.range n)[i]? with
  | none => rw [e] at h; cases h
  | some j =>
    rw [e] at h; cases h
    obtain ⟨h1, h2⟩ := List.getElem?_eq_some_iff.mp e
    rw [List.length_range] at h1
    rw [List.getElem_range] at h2
    subst h2
    exact ⟨h1, rfl⟩
theorem it_rng (lo : Int) (n : Nat) : ItOk (K := K) d H (Itr lo n) (rangeP lo n) := fun d1 d2 H2 μ2 bb e w => by
  refine ⟨fun i x hx => ?_, fun i hi => show n ≤ i by simpa [rangeP] using hi⟩
  obtain ⟨h1, rfl⟩ := rangeP_get hx
  refine ⟨h1, fun u H3 hy => ?_⟩
  obtain ⟨rfl, rfl⟩ := hy
  exact ⟨.refl, w, .int _⟩
def mRng1 (m : MA) : MI := fun ρ μ P => m ρ μ fun xs μ1 => match xs with | [.int j] => (-4000000000000000000 ≤ j ∧ j ≤ 4000000000000000000) ∧ P (rangeP 0 j.toNat) μ1 | _ => False
def mRng2 (m : MA) : MI := fun ρ μ P => m ρ μ fun xs μ1 => match xs with | [.int i, .int j] => (-1000000000000 ≤ i ∧ i ≤ 1000000000000 ∧ -1000000000000 ≤ j ∧ j ≤ 1000000000000) ∧ P (rangeP i (j - i).toNat) μ1 | _ => False
instance {t m} [h : FA K t m] : FI K (iRng1 t) (mRng1 m) := ⟨fun d σ H ρ μ P R w e q k => by
  refine h.run d σ H ρ μ _ _ w e q fun d1 H1 μ1 xs vs e1 w1 r1 q1 => ?_
  match xs, r1, q1 with
  | [.int j], .cons (.int _) .nil, ⟨z, q1⟩ => exact ⟨j, rfl, by omega, by omega, k d1 H1 μ1 _ _ e1 w1 (it_rng 0 j.toNat) q1⟩⟩
instance {t m} [h : FA K t m] : FI K (iRng2 t) (mRng2 m) := ⟨fun d σ H ρ μ P R w e q k => by
  refine h.run d σ H ρ μ _ _ w e q fun d1 H1 μ1 xs vs e1 w1 r1 q1 => ?_
  match xs, r1, q1 with
  | [.int i, .int j], .cons (.int _) (.cons (.int _) .nil), ⟨z, q1⟩ => exact ⟨i, j, rfl, by omega, k d1 H1 μ1 _ _ e1 w1 (it_rng i (j - i).toNat) q1⟩⟩
def zipP : List PV → List PV → List PV
  | x :: xs, y :: ys => .tup [x, y] :: zipP xs ys
  | _, _ => []
theorem zipP_get : ∀ {xs ys : List PV} {i : Nat} {z : PV}, (zipP xs ys)[i]? = some z → ∃ x y, xs[i]? = some x ∧ ys[i]? = some y ∧ z = .tup [x, y]
  | [], _, _, _, h => by simp [zipP] at h
  | _ :: _, [], _, _, h => by simp [zipP] at h
  | x :: xs, y :: ys, 0, z, h => by
    simp [zipP] at h
    exact ⟨x, y, rfl, rfl, h.symm⟩
  | x :: xs, y :: ys, i + 1, z, h => by
    simp only [zipP, List.getElem?_cons_succ] at h
    obtain ⟨a, b, h1, h2, h3⟩ := zipP_get h
    exact ⟨a, b, by simpa using h1, by simpa using h2, h3⟩
theorem zipP_length : ∀ xs ys : List PV, (zipP xs ys).length = min xs.length ys.length
  | [], _ => by simp [zipP]
  | _ :: _, [] => by simp [zipP]
  | x :: xs, y :: ys => by simp [zipP, zipP_length xs ys]
theorem tup_pair {x y : PV} {v u : V} {T : Addr} (w : WOk K d H μ) (hT : H T = none) (rx : RV K d H x v) (ry : RV K d H y u) : Ext d H d (upd H T (.tup [v, u])) ∧ WOk K d (upd H T (.tup [v, u])) μ ∧ RV K d (upd H T (.tup [v, u])) (.tup [x, y]) (.ref T) :=
  ⟨Ext.lay w hT, w.lay hT, lay_tup w (.cons rx (.cons ry .nil)) hT⟩
theorem it_zipT (h : TupAt K d H a vs) (r : RVs K d H xs vs) (h' : TupAt K d H b us) (r' : RVs K d H ys us) : ItOk (K := K) d H (ItzT K a b) (zipP xs ys) := fun d1 d2 H2 μ2 bb e w => by
  have h2 : TupAt K d2 H2 a vs := e.tupAt (h.imp (fun z => ⟨z.1, by rw [bb.1]; exact z.2⟩) id)
  have r2 : RVs K d2 H2 xs vs := (r.bars bb).mono e
  have h2' : TupAt K d2 H2 b us := e.tupAt (h'.imp (fun z => ⟨z.1, by rw [bb.1]; exact z.2⟩) id)
  have r2' : RVs K d2 H2 ys us := (r'.bars bb).mono e
  refine ⟨fun i z hz => ?_, fun i hi => ⟨vs, us, h2.sq, h2'.sq, ?_⟩⟩
  · obtain ⟨x, y, hx, hy, rfl⟩ := zipP_get hz
    obtain ⟨v, hv, rv⟩ := r2.get hx
    obtain ⟨u, hu, ru⟩ := r2'.get hy
    refine ⟨⟨vs, us, v, u, h2.sq, h2'.sq, hv, hu⟩, fun t H3 hy => ?_⟩
    obtain ⟨T, x', y', rfl, hT, rfl, f, g⟩ := hy
    have e1 := f vs h2.sq
    have e2 := g us h2'.sq
    rw [hv] at e1; cases e1
    rw [hu] at e2; cases e2
    exact tup_pair w hT rv ru
  · rw [zipP_length] at hi
    rw [← r2.length, ← r2'.length]
    omega
theorem it_zipL (h : LstAt d H a vs) (r : RVs K d H xs vs) (h' : LstAt d H b us) (r' : RVs K d H ys us) : ItOk (K := K) d H (Itz K a b) (zipP xs ys) := fun d1 d2 H2 μ2 bb e w => by
  have bl : ∀ {c : Addr} {ws : List V}, LstAt d H c ws → LstAt d2 H2 c ws := fun h => e.lstAt ⟨h.1, by rw [bb.1]; exact h.2.1, fun q => (bb.2 _ q).elim h.2.2 (by rw [h.1]; simp)⟩
  have h2 := bl h
  have r2 : RVs K d2 H2 xs vs := (r.bars bb).mono e
  have h2' := bl h'
  have r2' : RVs K d2 H2 ys us := (r'.bars bb).mono e
  refine ⟨fun i z hz => ?_, fun i hi => ⟨vs, us, h2.sq, h2'.sq, ?_⟩⟩
  · obtain ⟨x, y, hx, hy, rfl⟩ := zipP_get hz
    obtain ⟨v, hv, rv⟩ := r2.get hx
    obtain ⟨u, hu, ru⟩ := r2'.get hy
    refine ⟨⟨vs, us, v, u, h2.sq, h2'.sq, hv, hu⟩, fun t H3 hy => ?_⟩
    obtain ⟨T, x', y', rfl, hT, rfl, f, g⟩ := hy
    have e1 := f vs h2.sq
    have e2 := g us h2'.sq
    rw [hv] at e1; cases e1
    rw [hu] at e2; cases e2
    exact tup_pair w hT rv ru
  · rw [zipP_length] at hi
    rw [← r2.length, ← r2'.length]
    omega
def mZip (m : MA) : MI := fun ρ μ P => m ρ μ fun zs μ1 => match zs with | [.tup xs, .tup ys] => P (zipP xs ys) μ1 | [.lst xs, .lst ys] => P (zipP xs ys) μ1 | _ => False
instance {t m} [h : FA K t m] : FI K (iZipA K t) (mZip m) := ⟨fun d σ H ρ μ P R w e q k => by
  refine h.run d σ H ρ μ _ _ w e q fun d1 H1 μ1 zs vs e1 w1 r1 q1 => ?_
  match zs, r1, q1 with
  | [.tup xs, .tup ys], .cons (.tup ha hr) (.cons (.tup ha' hr') .nil), q1 => exact ⟨_, _, _, _, rfl, .inr ⟨ha.sq, ha'.sq, k d1 H1 μ1 _ _ e1 w1 (it_zipT ha hr ha' hr') q1⟩⟩
  | [.lst xs, .lst ys], .cons (.lst ha hr) (.cons (.lst ha' hr') .nil), q1 => exact ⟨_, _, _, _, rfl, .inl ⟨ha.sq, ha'.sq, k d1 H1 μ1 _ _ e1 w1 (it_zipL ha hr ha' hr') q1⟩⟩⟩
end
end Fx
namespace Fx
open PySem PySem.Spec PyProof.Rows L2 RZ
section
variable {K : PySem.W.Frag} {d d' : Wd} {H H' : Hp} {a b : Addr} {vs us : List V} {xs ys : List PV} {μ : Store}
theorem WOk.obj (w : WOk K d H μ) {n : Nat} {m : MO} (h : d.am[n]? = some a) (hm : μ[n]? = some m) : MOK K d H a m := w.ob n a m h hm
theorem RVs.atI {i : Int} {x : PV} (r : RVs K d H xs vs) (h : atI xs i = some x) : ∃ v, L2.atI vs i = some v ∧ RV K d H x v := by
  unfold L2.atI at h ⊢
  rw [← r.length]
  cases e : ixN xs.length i with
  | none => rw [e] at h; cases h
  | some j =>
    rw [e] at h
    exact r.get h
def itemsOf (x : PV) (μ : Store) : Option (List PV) := match x with
  | .tup xs => some xs
  | .lst xs => some xs
  | .kl xs => some xs
  | .mr n => match μ[n]? with | some (.lst xs) => some xs | _ => none
  | _ => none
def pIx : MO2 := fun x y μ P => match y with | .int i => (match itemsOf x μ with | some xs => (match atI xs i with | some v => P v μ | none => False) | none => False) | _ => False
theorem seq_of {x : PV} {v : V} (w : WOk K d H μ) (r : RV K d H x v) (h : itemsOf x μ = some xs) : ∃ a vs, v = .ref a ∧ RVs K d H xs vs ∧ (SqL K H a vs ∨ SqT K H a vs) := by
  cases r with
  | tup h1 h2 => cases h; exact ⟨_, _, rfl, h2, .inr h1.sq⟩
  | lst h1 h2 => cases h; exact ⟨_, _, rfl, h2, .inl h1.sq⟩
  | kl h1 h2 => cases h; exact ⟨_, _, rfl, h2, .inl h1.sq⟩
  | @mr n a h1 =>
    unfold itemsOf at h
    cases e : μ[n]? with
    | none => simp [e] at h
    | some m =>
      cases m with
      | lst zs =>
        simp [e] at h
        subst h
        obtain ⟨vs, q, r⟩ := w.obj h1 e
        exact ⟨_, _, rfl, r, .inl (.of q)⟩
      | dk _ => simp [e] at h
      | fd _ _ _ => simp [e] at h
      | tk _ => simp [e] at h
      | ft _ _ _ => simp [e] at h
  | _ => cases h
instance : F2 K (rIx K) pIx := ⟨fun d H μ x y v u P Q w r1 r2 q k => by
  unfold pIx at q
  cases y <;> try exact q.elim
  cases r2
  rename_i i
  cases e : itemsOf x μ with
  | none => rw [e] at q; exact q.elim
  | some xs =>
    rw [e] at q
    simp only at q
    obtain ⟨a, vs, rfl, rv, hq⟩ := seq_of w r1 e
    cases e2 : atI xs i with
    | none => rw [e2] at q; exact q.elim
    | some z =>
      rw [e2] at q
      obtain ⟨v', hv, rz⟩ := rv.atI e2
      have fin := k d H μ _ _ .refl w rz q
      rcases hq with hq | hq
      · exact .inl ⟨a, vs, i, v', rfl, rfl, hq, hv, fin⟩
      · exact .inr (.inl ⟨a, vs, i, v', rfl, rfl, hq, hv, fin⟩)⟩
def scalP : PV → PV → Option Bool
  | .int i, .int j => some (decide (i = j))
  | .bl i, .bl j => some (decide (i = j))
  | .str i, .str j => some (decide (i = j))
  | .non, .non => some true
  | .non, .int _ => some false | .int _, .non => some false | .non, .bl _ => some false | .bl _, .non => some false | .non, .str _ => some false | .str _, .non => some false
  | .int _, .str _ => some false | .str _, .int _ => some false | .bl _, .str _ => some false | .str _, .bl _ => some false
  | _, _ => none
mutual
def datP : PV → Option PyData
  | .non => some .none
  | .bl b => some (.bool b)
  | .int i => some (.int i)
  | .str x => some (.str x)
  | .tup xs => (datPs xs).map .tuple
  | .lst xs => (datPs xs).map .list
  | .ty _ => none
  | .kl _ => none
  | .mr _ => none
def datPs : List PV → Option (List PyData)
  | [] => some []
  | x :: xs => match datP x, datPs xs with | some d, some ds => some (d :: ds) | _, _ => none
end
mutual
theorem dat_dp : ∀ {x : PV} {v : V} {e : PyData}, RV K d H x v → datP x = some e → Dp K H v e
  | _, _, _, .non, h => by cases h; exact .non
  | _, _, _, .bl b, h => by cases h; exact .bl b
  | _, _, _, .int i, h => by cases h; exact .int i
  | _, _, _, .str x, h => by cases h; exact .str x
  | _, _, _, .ty n, h => by simp [datP] at h
  | .tup xs, _, _, .tup h1 r, h => by
    simp only [datP] at h
    cases e : datPs xs with
    | none => rw [e] at h; cases h
    | some ds => rw [e] at h; cases h; exact .tup h1.sq (dats_dp r e)
  | .lst xs, _, _, .lst h1 r, h => by
    simp only [datP] at h
    cases e : datPs xs with
    | none => rw [e] at h; cases h
    | some ds => rw [e] at h; cases h; exact .lst h1.sq (dats_dp r e)
  | _, _, _, .kl _ _, h => by simp [datP] at h
  | _, _, _, .mr n, h => by simp [datP] at h
theorem dats_dp : ∀ {xs : List PV} {vs : List V} {es : List PyData}, RVs K d H xs vs → datPs xs = some es → DpAll K H vs es
  | _, _, _, .nil, h => by simp [datPs] at h; subst h; exact .nil
  | x :: xs, _, _, .cons r t, h => by
    simp only [datPs] at h
    cases e1 : datP x with
    | none => rw [e1] at h; simp at h
    | some d1 =>
      cases e2 : datPs xs with
      | none => rw [e1, e2] at h; simp at h
      | some ds => rw [e1, e2] at h; simp at h; subst h; exact .cons (dat_dp r e1) (dats_dp t e2)
end
def frzP (x : PV) (μ : Store) : PV := match x with | .mr n => (match μ[n]? with | some (.lst xs) => .lst xs | _ => x) | _ => x
theorem frz_dp {x : PV} {v : V} {e : PyData} (w : WOk K d H μ) (r : RV K d H x v) (h : datP (frzP x μ) = some e) : Dp K H v e := by
  match x, r, h with
  | .mr n, .mr (a := a) h1, h =>
    unfold frzP at h
    cases q : μ[n]? with
    | none => simp [q, datP] at h
    | some m =>
      cases m with
      | dk _ => simp [q, datP] at h
      | fd _ _ _ => simp [q, datP] at h
      | tk _ => simp [q, datP] at h
      | ft _ _ _ => simp [q, datP] at h
      | lst zs =>
        simp only [q, datP] at h
        cases e : datPs zs with
        | none => rw [e] at h; cases h
        | some ds =>
          rw [e] at h; cases h
          obtain ⟨vs, q, r⟩ := w.obj h1 q
          exact .lst (.of q) (dats_dp r e)
  | .non, r, h => exact dat_dp r h
  | .bl _, r, h => exact dat_dp r h
  | .int _, r, h => exact dat_dp r h
  | .str _, r, h => exact dat_dp r h
  | .ty _, r, h => exact dat_dp r h
  | .tup _, r, h => exact dat_dp r h
  | .lst _, r, h => exact dat_dp r h
  | .kl _, r, h => exact dat_dp r h
def eqP (x y : PV) (μ : Store) : Option Bool := match scalP x y with
  | some b => some b
  | none => match datP (frzP x μ), datP (frzP y μ) with
    | some a, some b => if SeqAt.shaped a = true ∧ SeqAt.shaped b = true then some (PyData.eqv a b) else none
    | _, _ => none
def rEqX (K : PySem.W.Frag) : R2 := fun x y H Q => rEq x y H Q ∨ rEqD K x y H Q
def rNeX (K : PySem.W.Frag) : R2 := fun x y H Q => rNe x y H Q ∨ rNeD K x y H Q
theorem op_eqX {X : Cx} (hu : X.A.units + 64 < cLine) : OpR X (compareOp .Eq) (rEqX X.K) := fun pins s σ H x y v u Q I rx ry h =>
  h.elim (op_eq pins s σ H x y v u Q I rx ry) (op_eqD hu pins s σ H x y v u Q I rx ry)
theorem op_neX {X : Cx} (hu : X.A.units + 64 < cLine) : OpR X (compareOp .NotEq) (rNeX X.K) := fun pins s σ H x y v u Q I rx ry h =>
  h.elim (op_ne pins s σ H x y v u Q I rx ry) (op_neD hu pins s σ H x y v u Q I rx ry)
def pEq : MO2 := fun x y μ P => match eqP x y μ with | some b => P (.bl b) μ | none => False
def pNe : MO2 := fun x y μ P => match eqP x y μ with | some b => P (.bl (!b)) μ | none => False
theorem scal_rv {x y : PV} {v u : V} {c : Bool} (r1 : RV K d H x v) (r2 : RV K d H y u) (h : scalP x y = some c) : scal v u = true ∧ decide (v = u) = c := by
  cases r1 <;> cases r2 <;> simp [scalP] at h <;> subst h <;> simp [scal]
theorem eq_run {x y : PV} {v u : V} {c : Bool} (w : WOk K d H μ) (r1 : RV K d H x v) (r2 : RV K d H y u) (h : eqP x y μ = some c) :
    (scal v u = true ∧ decide (v = u) = c) ∨ ∃ a b, Dp K H v a ∧ Dp K H u b ∧ SeqAt.shaped a = true ∧ SeqAt.shaped b = true ∧ PyData.eqv a b = c := by
  unfold eqP at h
  cases e : scalP x y with
  | some c' => rw [e] at h; cases h; exact .inl (scal_rv r1 r2 e)
  | none =>
    rw [e] at h
    simp only at h
    cases e1 : datP (frzP x μ) with
    | none => rw [e1] at h; cases h
    | some a =>
      cases e2 : datP (frzP y μ) with
      | none => rw [e1, e2] at h; cases h
      | some b =>
        rw [e1, e2] at h
        simp only at h
        split at h
        · rename_i hs
          cases h
          exact .inr ⟨a, b, frz_dp w r1 e1, frz_dp w r2 e2, hs.1, hs.2, rfl⟩
        · cases h
instance : F2 K (rEqX K) pEq := ⟨fun d H μ x y v u P Q w r1 r2 q k => by
  unfold pEq at q
  cases e : eqP x y μ with
  | none => rw [e] at q; exact q.elim
  | some c =>
    rw [e] at q
    have fin := k d H μ _ _ .refl w (.bl c) q
    rcases eq_run w r1 r2 e with ⟨h1, h2⟩ | ⟨a, b, h1, h2, h3, h4, h5⟩
    · exact .inl ⟨h1, by rw [h2]; exact fin⟩
    · exact .inr ⟨a, b, h1, h2, h3, h4, by rw [h5]; exact fin⟩⟩
instance : F2 K (rNeX K) pNe := ⟨fun d H μ x y v u P Q w r1 r2 q k => by
  unfold pNe at q
  cases e : eqP x y μ with
  | none => rw [e] at q; exact q.elim
  | some c =>
    rw [e] at q
    have fin := k d H μ _ _ .refl w (.bl (!c)) q
    rcases eq_run w r1 r2 e with ⟨h1, h2⟩ | ⟨a, b, h1, h2, h3, h4, h5⟩
    · exact .inl ⟨h1, by rw [h2]; exact fin⟩
    · exact .inr ⟨a, b, h1, h2, h3, h4, by rw [h5]; exact fin⟩⟩
def flatP : PV → Bool
  | .non => true | .bl _ => true | .int _ => true | .str _ => true | _ => false
def eqFlat : PV → PV → Bool
  | .non, .non => true
  | .bl a, .bl b => a == b
  | .bl a, .int b => (if a then 1 else 0) == b
  | .int a, .bl b => a == (if b then 1 else 0)
  | .int a, .int b => a == b
  | .str a, .str b => a == b
  | _, _ => false
def inP (x : PV) (xs : List PV) : Bool := xs.any fun y => eqFlat y x
theorem flat_rv {x : PV} {v : V} (r : RV K d H x v) : flatP x = true → flatV v = true := by
  cases r <;> simp [flatP, flatV]
theorem flats_rv : ∀ {xs : List PV} {vs : List V}, RVs K d H xs vs → xs.all flatP = true → vs.all flatV = true
  | _, _, .nil, _ => rfl
  | _, _, .cons r t, h => by
    rw [List.all_cons, Bool.and_eq_true] at h ⊢
    exact ⟨flat_rv r h.1, flats_rv t h.2⟩
theorem eqFlat_rv {x y : PV} {v u : V} (r : RV K d H x v) (r' : RV K d H y u) (h : flatP x = true) (h' : flatP y = true) : eqV v u = eqFlat x y := by
  cases r <;> simp [flatP] at h <;> cases r' <;> simp [flatP] at h' <;> rfl
theorem in_rv {x : PV} {v : V} (r : RV K d H x v) (h : flatP x = true) : ∀ {xs : List PV} {vs : List V}, RVs K d H xs vs → xs.all flatP = true → inV v vs = inP x xs
  | _, _, .nil, _ => rfl
  | _, _, .cons r' t, h' => by
    rw [List.all_cons, Bool.and_eq_true] at h'
    show ((eqV _ v) || inV v _) = (eqFlat _ x || inP x _)
    rw [eqFlat_rv r' r h'.1 h, in_rv r h t h'.2]
def pIn (neg : Bool) : MO2 := fun x y μ P => match itemsOf y μ with | some xs => (flatP x = true ∧ xs.all flatP = true) ∧ P (.bl (if neg then !inP x xs else inP x xs)) μ | none => False
instance {neg} : F2 K (rIn K neg) (pIn neg) := ⟨fun d H μ x y v u P Q w r1 r2 q k => by
  unfold pIn at q
  cases e : itemsOf y μ with
  | none => rw [e] at q; exact q.elim
  | some xs =>
    rw [e] at q
    obtain ⟨⟨h1, h2⟩, q⟩ := q
    obtain ⟨a, vs, rfl, rv, hq⟩ := seq_of w r2 e
    refine ⟨a, vs, rfl, hq, flat_rv r1 h1, flats_rv rv h2, ?_⟩
    rw [in_rv r1 h1 rv h2]
    exact k d H μ _ _ .refl w (.bl _) q⟩
def pIsB (neg : Bool) : MO2 := fun x y μ P => match x, y with | .bl a, .bl b => P (.bl (if neg then !decide (a = b) else decide (a = b))) μ | _, _ => False
instance : F2 K rIsB (pIsB false) := ⟨fun d H μ x y v u P Q w r1 r2 q k => by
  cases x <;> try exact q.elim
  cases y <;> try exact q.elim
  cases r1; cases r2
  exact ⟨_, _, rfl, rfl, k d H μ _ _ .refl w (.bl _) q⟩⟩
instance : F2 K rNotB (pIsB true) := ⟨fun d H μ x y v u P Q w r1 r2 q k => by
  cases x <;> try exact q.elim
  cases y <;> try exact q.elim
  cases r1; cases r2
  exact ⟨_, _, rfl, rfl, k d H μ _ _ .refl w (.bl _) q⟩⟩
class FO (K : PySem.W.Frag) (t : TO) (m : outParam (PEnv → Store → (Option Int → Store → Prop) → Prop)) : Prop where
  run : ∀ (d : Wd) (σ : L2.St) (H : Hp) (ρ : PEnv) (μ : Store) (P : Option Int → Store → Prop) (Q : Option Int → Hp → Prop), WOk K d H μ → REnv K d H ρ σ → m ρ μ P →
    (∀ d' H' μ' o, Ext d H d' H' → WOk K d' H' μ' → P o μ' → Q o H') → t σ H Q
def mNoPart : PEnv → Store → (Option Int → Store → Prop) → Prop := fun _ μ P => P none μ
def mPart (m : ME) : PEnv → Store → (Option Int → Store → Prop) → Prop := fun ρ μ P => m ρ μ fun x μ1 => match x with | .int i => P (some i) μ1 | _ => False
instance : FO K tNoPart mNoPart := ⟨fun d σ H ρ μ P Q w e q k => k d H μ none .refl w q⟩
instance {t m} [h : FE K t m] : FO K (tPart t) (mPart m) := ⟨fun d σ H ρ μ P Q w e q k => by
  refine h.run d σ H ρ μ _ _ w e q fun d1 H1 μ1 x v e1 w1 r1 q1 => ?_
  cases x <;> try exact q1.elim
  cases r1
  exact ⟨_, rfl, k d1 H1 μ1 _ e1 w1 q1⟩⟩
def cutP (xs : List PV) (lo hi : Option Int) : List PV := (xs.drop (HT.sIx xs.length 0 lo)).take (HT.sIx xs.length xs.length hi - HT.sIx xs.length 0 lo)
theorem RVs.cut (r : RVs K d H xs vs) (lo hi : Option Int) : RVs K d H (cutP xs lo hi) (cutV vs lo hi) := by
  unfold cutP cutV
  rw [← r.length]
  exact (r.drop _).take _
theorem cut_whole {xs : List PV} {lo hi : Option Int} (h : HT.sIx xs.length 0 lo = 0 ∧ HT.sIx xs.length xs.length hi = xs.length) : cutP xs lo hi = xs := by
  unfold cutP
  rw [h.1, h.2]
  simp
def mSl (m : ME) (lo hi : PEnv → Store → (Option Int → Store → Prop) → Prop) : ME := fun ρ μ P => m ρ μ fun x μ1 => lo ρ μ1 fun l μ2 => hi ρ μ2 fun h μ3 => match x with | .tup xs => P (.tup (cutP xs l h)) μ3 | .lst xs => P (.lst (cutP xs l h)) μ3 | .kl xs => P (.lst (cutP xs l h)) μ3 | .mr n => (match μ3[n]? with | some (.lst xs) => P (.lst (cutP xs l h)) μ3 | _ => False) | _ => False
def rSlX (K : PySem.W.Frag) : V → Option Int → Option Int → Hp → VK → Prop := fun x lo hi H Q => rSlL K x lo hi H Q ∨ rSlA K x lo hi H Q
theorem sl_any {X : Cx} : SlR X (rSlX X.K) := SlR.or sl_list sl_tupA
instance {t m lo hi ml mh} [h : FE K t m] [hl : FO K lo ml] [hh : FO K hi mh] : FE K (tSl (rSlX K) t lo hi) (mSl m ml mh) := ⟨fun d σ H ρ μ P Q w e q k => by
  refine h.run d σ H ρ μ _ _ w e q fun d1 H1 μ1 x v e1 w1 r1 q1 => ?_
  refine hl.run d1 σ H1 ρ μ1 _ _ w1 (e.mono e1) q1 fun d2 H2 μ2 l e2 w2 q2 => ?_
  refine hh.run d2 σ H2 ρ μ2 _ _ w2 (e.mono (e1.trans e2)) q2 fun d3 H3 μ3 h e3 w3 q3 => ?_
  have E3 := (e1.trans e2).trans e3
  have r3 := r1.mono (e2.trans e3)
  cases r3 with
  | @tup xs a vs h1 h2 =>
    refine .inr ⟨a, vs, rfl, h1.sq, fun z => ?_, fun z p hp => ?_⟩
    · have q3' : P (.tup (cutP xs l h)) μ3 := q3
      rw [cut_whole (by rw [h2.length]; exact z)] at q3'
      exact k d3 H3 μ3 _ _ E3 w3 (.tup h1 h2) q3'
    · exact k d3 _ μ3 _ _ (E3.trans (Ext.lay w3 hp)) (w3.lay hp) (lay_tup w3 (h2.cut l h) hp) q3
  | @lst xs a vs h1 h2 =>
    exact .inl ⟨a, vs, rfl, h1.sq, fun p hp => k d3 _ μ3 _ _ (E3.trans (Ext.lay w3 hp)) (w3.lay hp) (lay_lst w3 (h2.cut l h) hp) q3⟩
  | @kl xs a vs h1 h2 =>
    exact .inl ⟨a, vs, rfl, h1.sq, fun p hp => k d3 _ μ3 _ _ (E3.trans (Ext.lay w3 hp)) (w3.lay hp) (lay_lst w3 (h2.cut l h) hp) q3⟩
  | @mr n a h1 =>
    simp only at q3
    cases e4 : μ3[n]? with
    | none => rw [e4] at q3; exact q3.elim
    | some m =>
      cases m with
      | dk _ => rw [e4] at q3; exact q3.elim
      | fd _ _ _ => rw [e4] at q3; exact q3.elim
      | tk _ => rw [e4] at q3; exact q3.elim
      | ft _ _ _ => rw [e4] at q3; exact q3.elim
      | lst zs =>
        rw [e4] at q3
        obtain ⟨vs, q, r⟩ := w3.obj h1 e4
        exact .inl ⟨a, vs, rfl, .of q, fun p hp => k d3 _ μ3 _ _ (E3.trans (Ext.lay w3 hp)) (w3.lay hp) (lay_lst w3 (r.cut l h) hp) q3⟩
  | _ => exact q3.elim⟩
def mRevL (m : ME) : ME := fun ρ μ P => m ρ μ fun x μ1 => match itemsOf x μ1 with | some xs => (match x with | .tup _ => False | _ => P (.lst xs.reverse) μ1) | none => False
def tRevLM (K : PySem.W.Frag) (te : TE) : TE := tRevL K te
def mRevLM (m : ME) : ME := fun ρ μ P => m ρ μ fun x μ1 => match itemsOf x μ1 with | some xs => (match x with | .tup _ => False | _ => P (.mr μ1.length) (μ1 ++ [.lst xs.reverse])) | none => False
theorem seqL_of {x : PV} {v : V} (w : WOk K d H μ) (r : RV K d H x v) (h : itemsOf x μ = some xs) (hx : ∀ ys, x ≠ .tup ys) : ∃ a vs, v = .ref a ∧ RVs K d H xs vs ∧ SqL K H a vs := by
  cases r with
  | tup h1 h2 => exact absurd rfl (hx _)
  | lst h1 h2 => cases h; exact ⟨_, _, rfl, h2, h1.sq⟩
  | kl h1 h2 => cases h; exact ⟨_, _, rfl, h2, h1.sq⟩
  | @mr n a h1 =>
    unfold itemsOf at h
    cases e : μ[n]? with
    | none => simp [e] at h
    | some m =>
      cases m with
      | lst zs =>
        simp [e] at h
        subst h
        obtain ⟨vs, q, r⟩ := w.obj h1 e
        exact ⟨_, _, rfl, r, .of q⟩
      | dk _ => simp [e] at h
      | fd _ _ _ => simp [e] at h
      | tk _ => simp [e] at h
      | ft _ _ _ => simp [e] at h
  | _ => cases h
instance {t m} [h : FE K t m] : FE K (tRevL K t) (mRevL m) := ⟨fun d σ H ρ μ P Q w e q k => by
  refine h.run d σ H ρ μ _ _ w e q fun d1 H1 μ1 x v e1 w1 r1 q1 => ?_
  cases e2 : itemsOf x μ1 with
  | none => rw [e2] at q1; exact q1.elim
  | some xs =>
    rw [e2] at q1
    simp only at q1
    have hx : ∀ ys, x ≠ .tup ys := by rintro ys rfl; exact q1
    obtain ⟨a, vs, rfl, rv, hq⟩ := seqL_of w1 r1 e2 hx
    refine ⟨a, vs, rfl, hq, fun p hp => ?_⟩
    refine k d1 _ μ1 _ _ (e1.trans (Ext.lay w1 hp)) (w1.lay hp) (lay_lst w1 rv.rev hp) ?_
    cases x <;> first | exact q1.elim | exact q1⟩
instance {t m} [h : FE K t m] : FE K (tRevLM K t) (mRevLM m) := ⟨fun d σ H ρ μ P Q w e q k => by
  refine h.run d σ H ρ μ _ _ w e q fun d1 H1 μ1 x v e1 w1 r1 q1 => ?_
  cases e2 : itemsOf x μ1 with
  | none => rw [e2] at q1; exact q1.elim
  | some xs =>
    rw [e2] at q1
    simp only at q1
    have hx : ∀ ys, x ≠ .tup ys := by rintro ys rfl; exact q1
    obtain ⟨a, vs, rfl, rv, hq⟩ := seqL_of w1 r1 e2 hx
    refine ⟨a, vs, rfl, hq, fun p hp => ?_⟩
    have ee := Ext.push (o := .lst vs.reverse) w1 hp
    refine k (d1.push p) _ _ _ _ (e1.trans ee) (w1.push (m := .lst xs.reverse) hp ⟨_, upd_same, rv.rev.mono ee⟩) (lay_mr w1) ?_
    cases x <;> first | exact q1.elim | exact q1⟩
end
end Fx
namespace Fx
open PySem PySem.Spec PyProof.Rows L2 RZ
section
variable {K : PySem.W.Frag} {d d' : Wd} {H H' : Hp} {a b : Addr} {vs us : List V} {xs ys : List PV} {μ : Store}
def mCB (p : MB) (t : MA) : ME := fun ρ μ P => t ρ μ fun xs μ1 => p xs μ1 P
instance {r p t m} [h : FB K r p] [ht : FA K t m] : FE K (tCB r t) (mCB p m) := ⟨fun d σ H ρ μ P Q w e q k => by
  refine ht.run d σ H ρ μ _ _ w e q fun d1 H1 μ1 xs vs e1 w1 r1 q1 => ?_
  exact h.run d1 H1 μ1 xs vs P Q w1 r1 q1 fun d2 H2 μ2 z w' e2 => k d2 H2 μ2 z w' (e1.trans e2)⟩
def rAbs : List V → Hp → VK → Prop := fun xs H Q => ∃ i, xs = [.int i] ∧ Q (.int (if i < 0 then -i else i)) H
theorem cb_abs {X : Cx} : CallR X (.builtin "abs") rAbs := call_abs
def pAbs : MB := fun xs μ P => match xs with | [.int i] => P (.int (if i < 0 then -i else i)) μ | _ => False
instance : FB K rAbs pAbs := ⟨fun d H μ xs vs P Q w r q k => by
  match xs, r, q with
  | [.int i], .cons (.int _) .nil, q => exact ⟨i, rfl, k d H μ _ _ .refl w (.int _) q⟩⟩
def rMax2 : List V → Hp → VK → Prop := fun xs H Q => ∃ i j, xs = [.int i, .int j] ∧ Q (.int (if j > i then j else i)) H
theorem cb_max2 {X : Cx} (hc : X.calm = true) : CallR X (.builtin "max") rMax2 := call_max2 hc
def rMin2 : List V → Hp → VK → Prop := fun xs H Q => ∃ i j, xs = [.int i, .int j] ∧ Q (.int (if j < i then j else i)) H
theorem cb_min2 {X : Cx} (hc : X.calm = true) : CallR X (.builtin "min") rMin2 := call_min2 hc
def pMax2 : MB := fun xs μ P => match xs with | [.int i, .int j] => P (.int (if j > i then j else i)) μ | _ => False
def pMin2 : MB := fun xs μ P => match xs with | [.int i, .int j] => P (.int (if j < i then j else i)) μ | _ => False
instance : FB K rMax2 pMax2 := ⟨fun d H μ xs vs P Q w r q k => by
  match xs, r, q with
  | [.int i, .int j], .cons (.int _) (.cons (.int _) .nil), q => exact ⟨i, j, rfl, k d H μ _ _ .refl w (.int _) q⟩⟩
instance : FB K rMin2 pMin2 := ⟨fun d H μ xs vs P Q w r q k => by
  match xs, r, q with
  | [.int i, .int j], .cons (.int _) (.cons (.int _) .nil), q => exact ⟨i, j, rfl, k d H μ _ _ .refl w (.int _) q⟩⟩
def rInt1 : List V → Hp → VK → Prop := fun xs H Q => (∃ i, xs = [.int i] ∧ Q (.int i) H) ∨ ∃ k, xs = [.bl k] ∧ Q (.int (if k then 1 else 0)) H
theorem cb_int1 {X : Cx} : CallR X (.type "int") rInt1 := call_int1
def pInt1 : MB := fun xs μ P => match xs with | [.int i] => P (.int i) μ | [.bl k] => P (.int (if k then 1 else 0)) μ | _ => False
instance : FB K rInt1 pInt1 := ⟨fun d H μ xs vs P Q w r q k => by
  match xs, r, q with
  | [.int i], .cons (.int _) .nil, q => exact .inl ⟨i, rfl, k d H μ _ _ .refl w (.int _) q⟩
  | [.bl b], .cons (.bl _) .nil, q => exact .inr ⟨b, rfl, k d H μ _ _ .refl w (.int _) q⟩⟩
def pGcd : MB := fun xs μ P => match xs with | [.int a, .int b] => P (.int ((Nat.gcd a.natAbs b.natAbs : Nat) : Int)) μ | _ => False
instance : FB K rGcd pGcd := ⟨fun d H μ xs vs P Q w r q k => by
  match xs, r, q with
  | [.int i, .int j], .cons (.int _) (.cons (.int _) .nil), q => exact ⟨i, j, rfl, k d H μ _ _ .refl w (.int _) q⟩⟩
def rLen (K : PySem.W.Frag) : List V → Hp → VK → Prop := fun xs H Q => ∃ x n, xs = [x] ∧ LenV K x H n ∧ Q (.int n) H
theorem cb_len {X : Cx} : CallR X (.builtin "len") (rLen X.K) := call_len
def pLen : MB := fun xs μ P => match xs with | [x] => (match itemsOf x μ with | some ys => P (.int (ys.length : Nat)) μ | none => False) | _ => False
instance : FB K (rLen K) pLen := ⟨fun d H μ xs vs P Q w r q k => by
  match xs, r, q with
  | [x], .cons r .nil, q =>
    unfold pLen at q
    simp only at q
    cases e : itemsOf x μ with
    | none => rw [e] at q; exact q.elim
    | some ys =>
      rw [e] at q
      obtain ⟨a, vs, rfl, rv, hq⟩ := seq_of w r e
      refine ⟨_, ys.length, rfl, ?_, k d H μ _ _ .refl w (.int _) q⟩
      rw [rv.length]
      exact hq.imp (fun h => ⟨vs, h, rfl⟩) (fun h => ⟨vs, h, rfl⟩)⟩
theorem RVs.ints_of : ∀ {xs : List PV} {vs : List V}, RVs K d H xs vs → ∀ {ns : List Int}, xs = ns.map PV.int → vs = ns.map V.int := fun r ns e => by
  subst e; exact RVs.ints r
def intsP : List PV → Option (List Int)
  | [] => some []
  | .int i :: xs => (intsP xs).map (i :: ·)
  | _ => none
theorem intsP_of : ∀ {xs : List PV} {ns : List Int}, intsP xs = some ns → xs = ns.map PV.int
  | [], ns, h => by cases h; rfl
  | x :: xs, ns, h => by
    cases x <;> simp [intsP] at h
    obtain ⟨ms, e, rfl⟩ := h
    rw [intsP_of e]; rfl
theorem intsP_map : ∀ (ns : List Int), intsP (ns.map PV.int) = some ns
  | [] => rfl
  | n :: ns => by simp [intsP, intsP_map ns]
def pSum : MB := fun xs μ P => match xs with | [x] => (match x with | .tup _ => False | _ => match itemsOf x μ with | some ys => (match intsP ys with | some ns => P (.int ns.sum) μ | none => False) | none => False) | _ => False
instance : FB K (rSum K) pSum := ⟨fun d H μ xs vs P Q w r q k => by
  match xs, r, q with
  | [x], .cons r .nil, q =>
    have hx : ∀ ys, x ≠ .tup ys := by rintro ys rfl; exact q
    cases e : itemsOf x μ with
    | none => cases x <;> simp [pSum, e] at q
    | some ys =>
      have q' : (match intsP ys with | some ns => P (.int ns.sum) μ | none => False) := by
        cases x <;> first | exact q.elim | (simp only [pSum, e] at q; exact q)
      obtain ⟨a, vs, rfl, rv, hq⟩ := seqL_of w r e hx
      cases e2 : intsP ys with
      | none => rw [e2] at q'; exact q'.elim
      | some ns =>
        rw [e2] at q'
        have ev := RVs.ints_of rv (intsP_of e2)
        subst ev
        exact ⟨a, ns, rfl, hq, k d H μ _ _ .refl w (.int _) q'⟩⟩
def maxP : List Int → Int
  | [] => 0
  | n :: ns => ns.foldl (fun a y => if a < y then y else a) n
def pMaxS : MB := fun xs μ P => match xs with | [x] => (match itemsOf x μ with | some ys => (match intsP ys with | some ns => ns ≠ [] ∧ P (.int (maxP ns)) μ | none => False) | none => False) | _ => False
def boolsP : List PV → Option (List Bool)
  | [] => some []
  | .bl i :: xs => (boolsP xs).map (i :: ·)
  | _ => none
theorem boolsP_of : ∀ {xs : List PV} {ns : List Bool}, boolsP xs = some ns → xs = ns.map PV.bl
  | [], ns, h => by cases h; rfl
  | x :: xs, ns, h => by
    cases x <;> simp [boolsP] at h
    obtain ⟨ms, e, rfl⟩ := h
    rw [boolsP_of e]; rfl
theorem boolsP_map : ∀ (ns : List Bool), boolsP (ns.map PV.bl) = some ns
  | [] => rfl
  | n :: ns => by simp [boolsP, boolsP_map ns]
def pAll : MB := fun xs μ P => match xs with | [.lst ys] => (match boolsP ys with | some bs => P (.bl (bs.all id)) μ | none => False) | _ => False
def pAny : MB := fun xs μ P => match xs with | [.lst ys] => (match boolsP ys with | some bs => P (.bl (bs.any id)) μ | none => False) | _ => False
instance : FB K (rAll K) pAll := ⟨fun d H μ xs vs P Q w r q k => by
  match xs, r, q with
  | [.lst ys], .cons (.lst (a := a) h1 h2) .nil, q =>
    unfold pAll at q
    simp only at q
    cases e2 : boolsP ys with
    | none => rw [e2] at q; exact q.elim
    | some ns =>
      rw [e2] at q
      have ev := boolsP_of e2
      subst ev
      have ev := RVs.bools h2
      subst ev
      exact ⟨a, ns, rfl, h1.sq, k d H μ _ _ .refl w (.bl _) q⟩⟩
instance : FB K (rAny K) pAny := ⟨fun d H μ xs vs P Q w r q k => by
  match xs, r, q with
  | [.lst ys], .cons (.lst (a := a) h1 h2) .nil, q =>
    unfold pAny at q
    simp only at q
    cases e2 : boolsP ys with
    | none => rw [e2] at q; exact q.elim
    | some ns =>
      rw [e2] at q
      have ev := boolsP_of e2
      subst ev
      have ev := RVs.bools h2
      subst ev
      exact ⟨a, ns, rfl, h1.sq, k d H μ _ _ .refl w (.bl _) q⟩⟩
def rTupOf (K : PySem.W.Frag) : List V → Hp → VK → Prop := fun xs H Q => ∃ p ys, xs = [.ref p] ∧ ((SqL K H p ys ∧ ∀ l, H l = none → Q (.ref l) (upd H l (.tup ys))) ∨ (SqT K H p ys ∧ Q (.ref p) H))
theorem cb_tup {X : Cx} : CallR X (.type "tuple") (rTupOf X.K) := call_tuple_of
def pTupOf : MB := fun xs μ P => match xs with | [x] => (match itemsOf x μ with | some ys => P (.tup ys) μ | none => False) | _ => False
instance : FB K (rTupOf K) pTupOf := ⟨fun d H μ xs vs P Q w r q k => by
  match xs, r, q with
  | [x], .cons r .nil, q =>
    unfold pTupOf at q
    simp only at q
    cases e : itemsOf x μ with
    | none => rw [e] at q; exact q.elim
    | some ys =>
      rw [e] at q
      simp only at q
      match x, r, e with
      | .tup zs, r, e =>
        cases e
        cases r with
        | tup h1 h2 => exact ⟨_, _, rfl, .inr ⟨h1.sq, k d H μ _ _ .refl w (.tup h1 h2) q⟩⟩
      | .lst zs, r, e =>
        obtain ⟨a, vs, rfl, rv, hq⟩ := seqL_of w r e (by rintro _ ⟨⟩)
        exact ⟨a, vs, rfl, .inl ⟨hq, fun p hp => k d _ μ _ _ (Ext.lay w hp) (w.lay hp) (lay_tup w rv hp) q⟩⟩
      | .kl zs, r, e =>
        obtain ⟨a, vs, rfl, rv, hq⟩ := seqL_of w r e (by rintro _ ⟨⟩)
        exact ⟨a, vs, rfl, .inl ⟨hq, fun p hp => k d _ μ _ _ (Ext.lay w hp) (w.lay hp) (lay_tup w rv hp) q⟩⟩
      | .mr n, r, e =>
        obtain ⟨a, vs, rfl, rv, hq⟩ := seqL_of w r e (by rintro _ ⟨⟩)
        exact ⟨a, vs, rfl, .inl ⟨hq, fun p hp => k d _ μ _ _ (Ext.lay w hp) (w.lay hp) (lay_tup w rv hp) q⟩⟩⟩
def rLstOf (K : PySem.W.Frag) : List V → Hp → VK → Prop := fun xs H Q => ∃ p ys, xs = [.ref p] ∧ (SqL K H p ys ∨ SqT K H p ys) ∧ ∀ l, H l = none → Q (.ref l) (upd H l (.lst ys))
theorem cb_lst {X : Cx} : CallR X (.type "list") (rLstOf X.K) := call_list_of
def pLstOf : MB := fun xs μ P => match xs with | [x] => (match itemsOf x μ with | some ys => P (.lst ys) μ | none => False) | _ => False
def pLstOfM : MB := fun xs μ P => match xs with | [x] => (match itemsOf x μ with | some ys => P (.mr μ.length) (μ ++ [.lst ys]) | none => False) | _ => False
instance : FB K (rLstOf K) pLstOf := ⟨fun d H μ xs vs P Q w r q k => by
  match xs, r, q with
  | [x], .cons r .nil, q =>
    unfold pLstOf at q
    simp only at q
    cases e : itemsOf x μ with
    | none => rw [e] at q; exact q.elim
    | some ys =>
      rw [e] at q
      obtain ⟨a, vs, rfl, rv, hq⟩ := seq_of w r e
      exact ⟨a, vs, rfl, hq, fun p hp => k d _ μ _ _ (Ext.lay w hp) (w.lay hp) (lay_lst w rv hp) q⟩⟩
class FR (K : PySem.W.Frag) (t : L2.St → Hp → (Int → Int → Hp → Prop) → Prop) (m : outParam (PEnv → Store → (Int → Int → Store → Prop) → Prop)) : Prop where
  run : ∀ (d : Wd) (σ : L2.St) (H : Hp) (ρ : PEnv) (μ : Store) (P : Int → Int → Store → Prop) (Q : Int → Int → Hp → Prop), WOk K d H μ → REnv K d H ρ σ → m ρ μ P →
    (∀ d' H' μ' i j, Ext d H d' H' → WOk K d' H' μ' → P i j μ' → Q i j H') → t σ H Q
def mRg1 (a : ME) : PEnv → Store → (Int → Int → Store → Prop) → Prop := fun ρ μ P => a ρ μ fun x μ1 => match x with | .int n => P 0 n μ1 | _ => False
def mRg2 (a b : ME) : PEnv → Store → (Int → Int → Store → Prop) → Prop := fun ρ μ P => a ρ μ fun x μ1 => b ρ μ1 fun y μ2 => match x, y with | .int i, .int j => P i j μ2 | _, _ => False
instance {a m} [h : FE K a m] : FR K (tRg1 a) (mRg1 m) := ⟨fun d σ H ρ μ P Q w e q k => by
  refine h.run d σ H ρ μ _ _ w e q fun d1 H1 μ1 x v e1 w1 r1 q1 => ?_
  cases x <;> try exact q1.elim
  cases r1
  exact ⟨_, rfl, k d1 H1 μ1 _ _ e1 w1 q1⟩⟩
instance {a b m n} [h : FE K a m] [h' : FE K b n] : FR K (tRg2 a b) (mRg2 m n) := ⟨fun d σ H ρ μ P Q w e q k => by
  refine h.run d σ H ρ μ _ _ w e q fun d1 H1 μ1 x v e1 w1 r1 q1 => ?_
  refine h'.run d1 σ H1 ρ μ1 _ _ w1 (e.mono e1) q1 fun d2 H2 μ2 y u e2 w2 r2 q2 => ?_
  cases x <;> try exact q2.elim
  cases y <;> try exact q2.elim
  cases r1; cases r2
  exact ⟨_, _, rfl, rfl, k d2 H2 μ2 _ _ (e1.trans e2) w2 q2⟩⟩
def mTupRg (m : PEnv → Store → (Int → Int → Store → Prop) → Prop) : ME := fun ρ μ P => m ρ μ fun i j μ1 => (-1000000 ≤ i ∧ i ≤ 1000000 ∧ -1000000 ≤ j ∧ j ≤ 1000000) ∧ P (.tup (rangeP i (j - i).toNat)) μ1
theorem rvs_rg (i j : Int) : RVs K d H (rangeP i (j - i).toNat) (rgV i j) := by
  unfold rangeP rgV
  generalize List.range (j - i).toNat = l
  induction l with
  | nil => exact .nil
  | cons x l ih => exact .cons (.int _) ih
instance {t m} [h : FR K t m] : FE K (tTupRg t) (mTupRg m) := ⟨fun d σ H ρ μ P Q w e q k => by
  refine h.run d σ H ρ μ _ _ w e q fun d1 H1 μ1 i j e1 w1 ⟨z, q1⟩ => ⟨⟨by omega, by omega, by omega, by omega, by omega⟩, fun p hp => ?_⟩
  exact k d1 _ μ1 _ _ (e1.trans (Ext.lay w1 hp)) (w1.lay hp) (lay_tup w1 (rvs_rg i j) hp) q1⟩
end
end Fx
namespace Fx
open PySem PySem.Spec PyProof.Rows L2 RZ
section
variable {K : PySem.W.Frag} {d d' : Wd} {H H' : Hp} {a b : Addr} {vs us : List V} {xs ys : List PV} {μ : Store}
def lstItems (x : PV) (μ : Store) : Option (List PV) := match x with
  | .lst xs => some xs
  | .mr n => match μ[n]? with | some (.lst xs) => some xs | _ => none
  | _ => none
theorem lst_of {x : PV} {v : V} (w : WOk K d H μ) (r : RV K d H x v) (h : lstItems x μ = some xs) : ∃ a vs, v = .ref a ∧ RVs K d H xs vs ∧ H a = some (.lst vs) := by
  cases r with
  | lst h1 h2 => cases h; exact ⟨_, _, rfl, h2, h1.1⟩
  | @mr n a h1 =>
    unfold lstItems at h
    cases e : μ[n]? with
    | none => simp [e] at h
    | some m =>
      cases m with
      | lst zs =>
        simp [e] at h
        subst h
        obtain ⟨vs, q, r⟩ := w.obj h1 e
        exact ⟨_, _, rfl, r, q⟩
      | dk _ => simp [e] at h
      | fd _ _ _ => simp [e] at h
      | tk _ => simp [e] at h
      | ft _ _ _ => simp [e] at h
  | _ => cases h
def rPlus (K : PySem.W.Frag) : R2 := fun x y H Q => rI0 (fun i j => .int (i + j)) x y H Q ∨ rCatA K x y H Q ∨ rCat x y H Q
theorem op_plus {X : Cx} : OpR X (binaryOp .Add) (rPlus X.K) := OpR.or op_add (OpR.or op_catA op_cat)
def pPlus : MO2 := fun x y μ P => match x, y with
  | .int i, .int j => P (.int (i + j)) μ
  | .tup xs, .tup ys => xs.length + ys.length ≤ lim ∧ P (.tup (xs ++ ys)) μ
  | _, _ => match lstItems x μ, lstItems y μ with | some xs, some ys => xs.length + ys.length ≤ lim ∧ P (.lst (xs ++ ys)) μ | _, _ => False
def pPlusM : MO2 := fun x y μ P => match lstItems x μ, lstItems y μ with | some xs, some ys => xs.length + ys.length ≤ lim ∧ P (.mr μ.length) (μ ++ [.lst (xs ++ ys)]) | _, _ => False
theorem cat_run {x y : PV} {v u : V} {P : PV → Store → Prop} {Q : VK} (w : WOk K d H μ) (r1 : RV K d H x v) (r2 : RV K d H y u) (q : match lstItems x μ, lstItems y μ with | some xs, some ys => xs.length + ys.length ≤ lim ∧ P (.lst (xs ++ ys)) μ | _, _ => False)
    (k : ∀ d' H' μ' z w', Ext d H d' H' → WOk K d' H' μ' → RV K d' H' z w' → P z μ' → Q w' H') : rCat v u H Q := by
  cases e1 : lstItems x μ with
  | none => rw [e1] at q; exact q.elim
  | some xs =>
    cases e2 : lstItems y μ with
    | none => rw [e1, e2] at q; exact q.elim
    | some ys =>
      rw [e1, e2] at q
      obtain ⟨a, vs, rfl, rv, h1⟩ := lst_of w r1 e1
      obtain ⟨b, us, rfl, ru, h2⟩ := lst_of w r2 e2
      exact ⟨a, b, vs, us, rfl, rfl, h1, h2, by rw [← rv.length, ← ru.length]; exact lim_lt q.1, fun p hp => k d _ μ _ _ (Ext.lay w hp) (w.lay hp) (lay_lst w (rv.append ru) hp) q.2⟩
instance : F2 K (rPlus K) pPlus := ⟨fun d H μ x y v u P Q w r1 r2 q k => by
  match x, y, r1, r2, q with
  | .int i, .int j, .int _, .int _, q => exact .inl ⟨i, j, rfl, rfl, k d H μ _ _ .refl w (.int _) q⟩
  | .tup xs, .tup ys, .tup (a := a) (vs := vs) h1 h2, .tup (a := b) (vs := us) h3 h4, ⟨z, q⟩ =>
    refine .inr (.inl ⟨a, b, vs, us, rfl, rfl, h1.sq, h3.sq, by rw [← h2.length, ← h4.length]; exact lim_lt z, fun e => ?_, fun e1 e2 => ?_, fun e1 e2 p hp => ?_⟩)
    · subst e
      cases h2
      exact k d H μ _ _ .refl w (.tup h3 h4) (by simpa using q)
    · subst e2
      cases h4
      exact k d H μ _ _ .refl w (.tup h1 h2) (by simpa using q)
    · exact k d _ μ _ _ (Ext.lay w hp) (w.lay hp) (lay_tup w (h2.append h4) hp) q
  | .lst xs, y, r1, r2, q => exact .inr (.inr (cat_run w r1 r2 (by cases y <;> exact q) k))
  | .mr xs, y, r1, r2, q => exact .inr (.inr (cat_run w r1 r2 (by cases y <;> exact q) k))⟩
def CMulX (i j : Int) : Prop := i.natAbs.log2 + j.natAbs.log2 < 100000000
theorem CMulX.ok {i j : Int} (h : CMulX i j) : IntMulOk i j := by
  have b : ∀ x : Int, Builtin.Int.intBits x ≤ x.natAbs.log2 + 1 := fun x => by
    unfold Builtin.Int.intBits
    split <;> omega
  have h1 := b i
  have h2 := b j
  have h3 : i.natAbs.log2 + j.natAbs.log2 < 100000000 := h
  have e : bitsLine = 134217728 := by decide
  unfold IntMulOk
  intro z
  rw [Bool.and_eq_true] at z
  have z2 := z.2
  unfold Builtin.Int.intTooBig at z2
  have z3 := of_decide_eq_true z2
  rw [e] at z3
  omega
theorem op_mulXX {X : Cx} : OpR X (binaryOp .Mult) (rI CMulX fun i j => .int (i * j)) := opI fun _ _ _ _ _ _ _ hc q => mul_int q hc.ok
def MulOk (i j : Int) : Prop := CMul i j ∨ CMulX i j
theorem op_mulX {X : Cx} : OpR X (binaryOp .Mult) (rI MulOk fun i j => .int (i * j)) := by
  intro pins s σ H x y v u Q I rx ry h
  obtain ⟨i, j, e1, e2, c, q⟩ := h
  rcases c with c | c
  · exact op_mul pins s σ H x y v u Q I rx ry ⟨i, j, e1, e2, c, q⟩
  · exact op_mulXX pins s σ H x y v u Q I rx ry ⟨i, j, e1, e2, c, q⟩
def DivOk (i j : Int) : Prop := (0 < j ∧ j.natAbs.log2 < 9000) ∨ (j < 0 ∧ j.natAbs < 1073741824)
theorem op_divX {X : Cx} : OpR X (binaryOp .FloorDiv) (rI DivOk fun i j => .int (i.fdiv j)) := by
  intro pins s σ H x y v u Q I rx ry h
  obtain ⟨i, j, e1, e2, c, q⟩ := h
  rcases c with c | c
  · have q : Q (.int (i.fdiv j)) H := q
    rw [Int.fdiv_eq_ediv_of_nonneg i (by omega : 0 ≤ j)] at q
    exact op_fdivW pins s σ H x y v u Q I rx ry ⟨i, j, e1, e2, c, q⟩
  · exact op_fdivN pins s σ H x y v u Q I rx ry ⟨i, j, e1, e2, ⟨by omega, c.2⟩, q⟩
def mBM (p : PV → List PV → Store → (PV → Store → Prop) → Prop) (mo : ME) (ma : MA) : ME := fun ρ μ P => mo ρ μ fun x μ1 => match x with | .mr n => (match μ1[n]? with | some (.lst _) => ma ρ μ1 fun xs μ2 => p (.mr n) xs μ2 P | _ => False) | _ => False
instance {r p to mo t ma} [h : FM K r p] [ho : FE K to mo] [ha : FA K t ma] : FE K (tBM K "list" r to t) (mBM p mo ma) := ⟨fun d σ H ρ μ P Q w e q k => by
  refine ho.run d σ H ρ μ _ _ w e q fun d1 H1 μ1 x v e1 w1 r1 q1 => ?_
  cases r1 with
  | @mr n a h1 =>
    simp only at q1
    cases e2 : μ1[n]? with
    | none => rw [e2] at q1; exact q1.elim
    | some m =>
      cases m with
      | dk _ => rw [e2] at q1; exact q1.elim
      | fd _ _ _ => rw [e2] at q1; exact q1.elim
      | tk _ => rw [e2] at q1; exact q1.elim
      | ft _ _ _ => rw [e2] at q1; exact q1.elim
      | lst ys =>
        rw [e2] at q1
        obtain ⟨vs, q, _⟩ := w1.obj h1 e2
        refine ⟨.inl ⟨rfl, vs, .of q⟩, ?_⟩
        refine ha.run d1 σ H1 ρ μ1 _ _ w1 (e.mono e1) q1 fun d3 H3 μ3 xs us e3 w3 r3 q3 => ?_
        exact h.run d3 H3 μ3 (.mr n) (.ref a) xs us P Q w3 (.mr (e3.at h1)) r3 q3 fun d4 H4 μ4 z w' e4 => k d4 H4 μ4 z w' ((e1.trans e3).trans e4)
  | _ => exact q1.elim⟩
def mBM0 (p : PV → List PV → Store → (PV → Store → Prop) → Prop) (mo : ME) : ME := fun ρ μ P => mo ρ μ fun x μ1 => match x with | .mr n => (match μ1[n]? with | some (.lst _) => p (.mr n) [] μ1 P | _ => False) | _ => False
instance {r p to mo} [h : FM K r p] [ho : FE K to mo] : FE K (tBM0 K "list" r to) (mBM0 p mo) := ⟨fun d σ H ρ μ P Q w e q k => by
  refine ho.run d σ H ρ μ _ _ w e q fun d1 H1 μ1 x v e1 w1 r1 q1 => ?_
  cases r1 with
  | @mr n a h1 =>
    simp only at q1
    cases e2 : μ1[n]? with
    | none => rw [e2] at q1; exact q1.elim
    | some m =>
      cases m with
      | dk _ => rw [e2] at q1; exact q1.elim
      | fd _ _ _ => rw [e2] at q1; exact q1.elim
      | tk _ => rw [e2] at q1; exact q1.elim
      | ft _ _ _ => rw [e2] at q1; exact q1.elim
      | lst ys =>
        rw [e2] at q1
        obtain ⟨vs, q, _⟩ := w1.obj h1 e2
        refine ⟨.inl ⟨rfl, vs, .of q⟩, ?_⟩
        exact h.run d1 H1 μ1 (.mr n) (.ref a) [] [] P Q w1 (.mr h1) .nil q1 fun d4 H4 μ4 z w' e4 => k d4 H4 μ4 z w' (e1.trans e4)
  | _ => exact q1.elim⟩
def pAppend : PV → List PV → Store → (PV → Store → Prop) → Prop := fun x zs μ P => match x, zs with | .mr n, [y] => (match μ[n]? with | some (.lst xs) => xs.length ≤ lim ∧ P .non (μ.set n (.lst (xs ++ [y]))) | _ => False) | _, _ => False
theorem chg_list {n : Nat} {zs : List PV} {ws vs : List V} (w : WOk K d H μ) (h : d.am[n]? = some a) (r : RVs K d H zs ws) : Ext d H d (upd H a (.lst ws)) ∧ WOk K d (upd H a (.lst ws)) (μ.set n (.lst zs)) := by
  have ha : a ∈ d.am := List.mem_of_getElem? h
  have e : Ext d H d (upd H a (.lst ws)) := Ext.chg ha
  exact ⟨e, w.chg h ⟨ws, upd_same, r.mono e⟩⟩
instance : FM K rAppend pAppend := ⟨fun d H μ x v zs us P Q w r rs q k => by
  match x, zs, r, rs, q with
  | .mr n, [y], .mr (a := a) h1, .cons (v := u) ry .nil, q =>
    simp only [pAppend] at q
    cases e : μ[n]? with
    | none => rw [e] at q; exact q.elim
    | some m =>
      cases m with
      | dk _ => rw [e] at q; exact q.elim
      | fd _ _ _ => rw [e] at q; exact q.elim
      | tk _ => rw [e] at q; exact q.elim
      | ft _ _ _ => rw [e] at q; exact q.elim
      | lst xs =>
        rw [e] at q
        obtain ⟨vs, hq, rv⟩ := w.obj h1 e
        obtain ⟨e1, w1⟩ := chg_list (vs := vs) w h1 (rv.append (.cons ry .nil))
        exact ⟨a, vs, u, rfl, rfl, hq, by rw [← rv.length]; exact lim_lt' q.1, k d _ _ _ _ e1 w1 .non q.2⟩⟩
def pExtend : PV → List PV → Store → (PV → Store → Prop) → Prop := fun x zs μ P => match x, zs with | .mr n, [y] => (match μ[n]?, lstItems y μ with | some (.lst xs), some ys => xs.length + ys.length ≤ lim ∧ P .non (μ.set n (.lst (xs ++ ys))) | _, _ => False) | _, _ => False
instance : FM K rExtend pExtend := ⟨fun d H μ x v zs us P Q w r rs q k => by
  match x, zs, r, rs, q with
  | .mr n, [y], .mr (a := a) h1, .cons (v := u) ry .nil, q =>
    simp only [pExtend] at q
    cases e : μ[n]? with
    | none => rw [e] at q; exact q.elim
    | some m =>
      cases m with
      | dk _ => rw [e] at q; exact q.elim
      | fd _ _ _ => rw [e] at q; exact q.elim
      | tk _ => rw [e] at q; exact q.elim
      | ft _ _ _ => rw [e] at q; exact q.elim
      | lst xs =>
        rw [e] at q
        cases e2 : lstItems y μ with
        | none => rw [e2] at q; exact q.elim
        | some ys =>
          rw [e2] at q
          obtain ⟨vs, hq, rv⟩ := w.obj h1 e
          obtain ⟨b, ws, rfl, rw', hb⟩ := lst_of w ry e2
          obtain ⟨e1, w1⟩ := chg_list (vs := vs) w h1 (rv.append rw')
          exact ⟨a, b, vs, ws, rfl, rfl, hq, hb, by rw [← rv.length, ← rw'.length]; exact lim_lt q.1, k d _ _ _ _ e1 w1 .non q.2⟩⟩
theorem RVs.dropLast (r : RVs K d H xs vs) : RVs K d H xs.dropLast vs.dropLast := by
  rw [List.dropLast_eq_take, List.dropLast_eq_take, r.length]
  exact r.take _
def pPop : PV → List PV → Store → (PV → Store → Prop) → Prop := fun x zs μ P => match x, zs with | .mr n, [] => (match μ[n]? with | some (.lst xs) => (match xs[xs.length - 1]? with | some y => P y (μ.set n (.lst xs.dropLast)) | none => False) | _ => False) | _, _ => False
instance : FM K rPop pPop := ⟨fun d H μ x v zs us P Q w r rs q k => by
  match x, zs, r, rs, q with
  | .mr n, [], .mr (a := a) h1, .nil, q =>
    simp only [pPop] at q
    cases e : μ[n]? with
    | none => rw [e] at q; exact q.elim
    | some m =>
      cases m with
      | dk _ => rw [e] at q; exact q.elim
      | fd _ _ _ => rw [e] at q; exact q.elim
      | tk _ => rw [e] at q; exact q.elim
      | ft _ _ _ => rw [e] at q; exact q.elim
      | lst xs =>
        rw [e] at q
        simp only at q
        obtain ⟨vs, hq, rv⟩ := w.obj h1 e
        cases e2 : xs[xs.length - 1]? with
        | none => rw [e2] at q; exact q.elim
        | some y =>
          rw [e2] at q
          obtain ⟨u, hu, ry⟩ := rv.get e2
          obtain ⟨e1, w1⟩ := chg_list (vs := vs) w h1 rv.dropLast
          exact ⟨a, vs, u, rfl, rfl, hq, by rw [← rv.length]; exact hu, k d _ _ _ _ e1 w1 (ry.mono e1) q⟩⟩
class FSet (K : PySem.W.Frag) (r : TSet) (p : outParam (PV → PV → PV → Store → (Store → Prop) → Prop)) : Prop where
  run : ∀ (d : Wd) (H : Hp) (μ : Store) (x y z : PV) (v u t : V) (P : Store → Prop) (Q : Hp → Prop), WOk K d H μ → RV K d H x v → RV K d H y u → RV K d H z t → p x y z μ P →
    (∀ d' H' μ', Ext d H d' H' → WOk K d' H' μ' → P μ' → Q H') → r v u t H Q
def mSub (p : PV → PV → PV → Store → (Store → Prop) → Prop) (mo mi : ME) : MG := fun z ρ μ P => mo ρ μ fun x μ1 => mi ρ μ1 fun y μ2 => p x y z μ2 fun μ3 => P ρ μ3
instance {to ti t mo mi p} [h : FSet K t p] [ho : FE K to mo] [hi : FE K ti mi] : FG K (gSub to ti t) (mSub p mo mi) [] := ⟨fun d σ H ρ μ x v P Q w e r q k => by
  refine ho.run d σ H ρ μ _ _ w e q fun d1 H1 μ1 y u e1 w1 r1 q1 => ?_
  refine hi.run d1 σ H1 ρ μ1 _ _ w1 (e.mono e1) q1 fun d2 H2 μ2 z t e2 w2 r2 q2 => ?_
  exact h.run d2 H2 μ2 y z x u t v _ _ w2 (r1.mono e2) r2 (r.mono (e1.trans e2)) q2 fun d3 H3 μ3 e3 w3 q3 =>
    k d3 σ H3 ρ μ3 ((e1.trans e2).trans e3) w3 (e.mono ((e1.trans e2).trans e3)) rfl (fun _ _ => rfl) q3⟩
def pSetL : PV → PV → PV → Store → (Store → Prop) → Prop := fun x y z μ P => match x, y with | .mr n, .int i => (match μ[n]? with | some (.lst xs) => (match ixN xs.length i with | some j => P (μ.set n (.lst (xs.set j z))) | none => False) | _ => False) | _, _ => False
instance : FSet K rSetL pSetL := ⟨fun d H μ x y z v u t P Q w r1 r2 r3 q k => by
  match x, y, r1, r2, q with
  | .mr n, .int i, .mr (a := a) h1, .int _, q =>
    simp only [pSetL] at q
    cases e : μ[n]? with
    | none => rw [e] at q; exact q.elim
    | some m =>
      cases m with
      | dk _ => rw [e] at q; exact q.elim
      | fd _ _ _ => rw [e] at q; exact q.elim
      | tk _ => rw [e] at q; exact q.elim
      | ft _ _ _ => rw [e] at q; exact q.elim
      | lst xs =>
        rw [e] at q
        simp only at q
        obtain ⟨vs, hq, rv⟩ := w.obj h1 e
        cases e2 : ixN xs.length i with
        | none => rw [e2] at q; exact q.elim
        | some j =>
          rw [e2] at q
          obtain ⟨e1, w1⟩ := chg_list (vs := vs) w h1 (rv.set r3 j)
          exact ⟨a, vs, i, j, rfl, rfl, hq, by rw [← rv.length]; exact e2, k d _ _ e1 w1 q⟩⟩
def keyP : PV → Option Key
  | .int i => some (.inl i)
  | .str x => some (.inr x)
  | _ => none
theorem keyP_rv {x : PV} {v : V} {k : Key} (r : RV K d H x v) (h : keyP x = some k) : v = kV k := by
  cases r <;> simp [keyP] at h <;> subst h <;> rfl
def valP (kvs : List (Key × PV)) (k : Key) : Option PV := (kvs.find? fun kv => decide (kv.1 = k)).map (·.2)
def putP (kvs : List (Key × PV)) (k : Key) (v : PV) : List (Key × PV) :=
  if (kvs.any fun kv => decide (kv.1 = k)) = true then kvs.map (fun kv => if kv.1 = k then (kv.1, v) else kv) else kvs ++ [(k, v)]
def RKs (K : PySem.W.Frag) (d : Wd) (H : Hp) (kvs : List (Key × PV)) (ws : List (Key × V)) : Prop := ws.map (·.1) = kvs.map (·.1) ∧ RVs K d H (kvs.map (·.2)) (ws.map (·.2))
theorem RKs.nil : RKs K d H [] [] := ⟨rfl, .nil⟩
theorem RKs.cases {kvs : List (Key × PV)} {ws : List (Key × V)} (r : RKs K d H kvs ws) : (kvs = [] ∧ ws = []) ∨ ∃ k x v kvs' ws', kvs = (k, x) :: kvs' ∧ ws = (k, v) :: ws' ∧ RV K d H x v ∧ RKs K d H kvs' ws' := by
  obtain ⟨h1, h2⟩ := r
  cases kvs with
  | nil => simp at h1; exact .inl ⟨rfl, h1⟩
  | cons p kvs =>
    cases ws with
    | nil => simp at h1
    | cons q ws =>
      obtain ⟨k, x⟩ := p
      obtain ⟨k', v⟩ := q
      simp only [List.map_cons, List.cons.injEq] at h1
      obtain ⟨e, h1⟩ := h1
      subst e
      cases h2 with
      | cons r t => exact .inr ⟨_, _, _, _, _, rfl, rfl, r, h1, t⟩
theorem RKs.cons {k : Key} {x : PV} {v : V} {kvs : List (Key × PV)} {ws : List (Key × V)} (r : RV K d H x v) (t : RKs K d H kvs ws) : RKs K d H ((k, x) :: kvs) ((k, v) :: ws) :=
  ⟨by simp only [List.map_cons, t.1], .cons r t.2⟩
theorem RKs.val {k : Key} : ∀ {kvs : List (Key × PV)} {ws : List (Key × V)}, RKs K d H kvs ws → (valP kvs k = none ∧ valV ws k = none) ∨ ∃ x v, valP kvs k = some x ∧ valV ws k = some v ∧ RV K d H x v
  | [], ws, r => by
    rcases r.cases with ⟨_, e⟩ | ⟨_, _, _, _, _, e, _⟩
    · subst e; exact .inl ⟨rfl, rfl⟩
    · cases e
  | p :: kvs, ws, r => by
    rcases r.cases with ⟨e, _⟩ | ⟨k', x, v, kvs', ws', e1, e2, r1, t⟩
    · cases e
    · cases e1; subst e2
      by_cases h : k' = k
      · subst h
        exact .inr ⟨x, v, by simp [valP], by simp [valV], r1⟩
      · have := RKs.val (k := k) t
        have a1 : valP ((k', x) :: kvs) k = valP kvs k := by simp [valP, List.find?_cons, h]
        have a2 : valV ((k', v) :: ws') k = valV ws' k := by simp [valV, List.find?_cons, h]
        rw [a1, a2]; exact this
theorem RKs.len {kvs : List (Key × PV)} {ws : List (Key × V)} (r : RKs K d H kvs ws) : kvs.length = ws.length := by
  have := congrArg List.length r.1
  simpa using this.symm
theorem RKs.append : ∀ {kvs kvs' : List (Key × PV)} {ws ws' : List (Key × V)}, RKs K d H kvs ws → RKs K d H kvs' ws' → RKs K d H (kvs ++ kvs') (ws ++ ws') := fun r t => by
  refine ⟨by rw [List.map_append, List.map_append, r.1, t.1], ?_⟩
  rw [List.map_append, List.map_append]
  exact r.2.append t.2
theorem RKs.any {k : Key} {kvs : List (Key × PV)} {ws : List (Key × V)} (r : RKs K d H kvs ws) : (ws.any fun kv => decide (kv.1 = k)) = kvs.any fun kv => decide (kv.1 = k) := by
  have e1 : ∀ l : List (Key × V), (l.any fun kv => decide (kv.1 = k)) = (l.map (·.1)).any fun z => decide (z = k) := fun l => by rw [List.any_map]; rfl
  have e2 : ∀ l : List (Key × PV), (l.any fun kv => decide (kv.1 = k)) = (l.map (·.1)).any fun z => decide (z = k) := fun l => by rw [List.any_map]; rfl
  rw [e1, e2, r.1]
theorem RKs.upd1 {k : Key} {x : PV} {v : V} (rx : RV K d H x v) : ∀ {kvs : List (Key × PV)} {ws : List (Key × V)}, RKs K d H kvs ws → RKs K d H (kvs.map (fun kv => if kv.1 = k then (kv.1, x) else kv)) (ws.map (fun kv => if kv.1 = k then (kv.1, v) else kv))
  | [], ws, r => by
    rcases r.cases with ⟨_, e⟩ | ⟨_, _, _, _, _, e, _⟩
    · subst e; exact .nil
    · cases e
  | p :: kvs, ws, r => by
    rcases r.cases with ⟨e, _⟩ | ⟨k', x', v', kvs', ws', e1, e2, r1, t⟩
    · cases e
    · cases e1; subst e2
      rw [List.map_cons, List.map_cons]
      by_cases h : k' = k
      · simp only [h, if_true]
        exact .cons rx (RKs.upd1 rx t)
      · simp only [h, if_false]
        exact .cons r1 (RKs.upd1 rx t)
theorem RKs.put {k : Key} {x : PV} {v : V} (rx : RV K d H x v) {kvs : List (Key × PV)} {ws : List (Key × V)} (r : RKs K d H kvs ws) : RKs K d H (putP kvs k x) (putK ws k v) := by
  unfold putP putK
  rw [r.any]
  split
  · exact r.upd1 rx
  · exact r.append (.cons rx .nil)
theorem RKs.mono (e : Ext d H d' H') {kvs : List (Key × PV)} {ws : List (Key × V)} (r : RKs K d H kvs ws) : RKs K d' H' kvs ws := ⟨r.1, r.2.mono e⟩
def dictOfP (x : PV) (μ : Store) : Option (List (Key × PV)) := match x with | .mr n => (match μ[n]? with | some (.dk kvs) => some kvs | some (.fd _ _ kvs) => some kvs | _ => none) | _ => none
theorem dict_of {x : PV} {v : V} {kvs : List (Key × PV)} (w : WOk K d H μ) (r : RV K d H x v) (h : dictOfP x μ = some kvs) : ∃ n a ws, x = .mr n ∧ v = .ref a ∧ d.am[n]? = some a ∧ Rd H a (.dK ws) ∧ RKs K d H kvs ws := by
  cases r with
  | @mr n a h1 =>
    unfold dictOfP at h
    cases e : μ[n]? with
    | none => simp [e] at h
    | some m =>
      cases m with
      | lst zs => simp [e] at h
      | tk _ => simp [e] at h
      | ft _ _ _ => simp [e] at h
      | dk zs =>
        simp [e] at h
        subst h
        obtain ⟨ws, q, r1, r2⟩ := w.obj h1 e
        exact ⟨n, a, ws, rfl, rfl, h1, .inl q, r1, r2⟩
      | fd o ws zs =>
        simp [e] at h
        subst h
        obtain ⟨q, r1, r2⟩ := w.obj h1 e
        exact ⟨n, a, ws, rfl, rfl, h1, .inr ⟨o, q⟩, r1, r2⟩
  | _ => cases h
def mDGet (md my : ME) : ME := fun ρ μ P => md ρ μ fun x μ1 => my ρ μ1 fun y μ2 => match dictOfP x μ2, keyP y with | some kvs, some k => (match valP kvs k with | some v => P v μ2 | none => False) | _, _ => False
instance {td ty md my} [hd : FE K td md] [hy : FE K ty my] : FE K (tDGet td ty) (mDGet md my) := ⟨fun d σ H ρ μ P Q w e q k => by
  refine hd.run d σ H ρ μ _ _ w e q fun d1 H1 μ1 x v e1 w1 r1 q1 => ?_
  refine hy.run d1 σ H1 ρ μ1 _ _ w1 (e.mono e1) q1 fun d2 H2 μ2 y u e2 w2 r2 q2 => ?_
  cases a1 : dictOfP x μ2 with
  | none => rw [a1] at q2; exact q2.elim
  | some kvs =>
    cases a2 : keyP y with
    | none => rw [a1, a2] at q2; exact q2.elim
    | some kk =>
      rw [a1, a2] at q2
      simp only at q2
      obtain ⟨n, a, ws, rfl, rfl, _, hq, rk⟩ := dict_of w2 (r1.mono e2) a1
      obtain rfl := keyP_rv r2 a2
      rcases rk.val (k := kk) with ⟨z, _⟩ | ⟨x, v, z1, z2, rv⟩
      · rw [z] at q2; exact q2.elim
      · rw [z1] at q2
        exact ⟨a, v, rfl, .inl ⟨ws, kk, hq, rfl, z2.symm⟩, k d2 H2 μ2 _ _ (e1.trans e2) w2 rv q2⟩⟩
def mDIn (neg : Bool) (my md : ME) : ME := fun ρ μ P => my ρ μ fun y μ1 => md ρ μ1 fun x μ2 => match dictOfP x μ2, keyP y with | some kvs, some k => P (.bl (if neg then !(valP kvs k).isSome else (valP kvs k).isSome)) μ2 | _, _ => False
theorem din_run {x y : PV} {v u : V} {P : Option PV → Prop} {Q : Option V → Addr → Prop} (w : WOk K d H μ) (r1 : RV K d H x v) (r2 : RV K d H y u) (q : match dictOfP x μ, keyP y with | some kvs, some k => P (valP kvs k) | _, _ => False) :
    ∃ a o o', v = .ref a ∧ DGet H a u o ∧ o.isSome = o'.isSome ∧ P o' := by
  cases a1 : dictOfP x μ with
  | none => rw [a1] at q; exact q.elim
  | some kvs =>
    cases a2 : keyP y with
    | none => rw [a1, a2] at q; exact q.elim
    | some kk =>
      rw [a1, a2] at q
      obtain ⟨n, a, ws, rfl, rfl, _, hq, rk⟩ := dict_of w r1 a1
      obtain rfl := keyP_rv r2 a2
      refine ⟨a, valV ws kk, valP kvs kk, rfl, .inl ⟨ws, kk, hq, rfl, rfl⟩, ?_, q⟩
      rcases rk.val (k := kk) with ⟨z, z'⟩ | ⟨x, v, z1, z2, rv⟩
      · rw [z, z']; rfl
      · rw [z1, z2]; rfl
instance {td ty md my} [hd : FE K td md] [hy : FE K ty my] : FE K (tDIn ty td) (mDIn false my md) := ⟨fun d σ H ρ μ P Q w e q k => by
  refine hy.run d σ H ρ μ _ _ w e q fun d1 H1 μ1 y u e1 w1 r1 q1 => ?_
  refine hd.run d1 σ H1 ρ μ1 _ _ w1 (e.mono e1) q1 fun d2 H2 μ2 x v e2 w2 r2 q2 => ?_
  obtain ⟨a, o, o', rfl, g, eo, p⟩ := din_run (P := fun o => P (.bl o.isSome) μ2) (Q := fun _ _ => True) w2 r2 (r1.mono e2) q2
  exact ⟨a, o, rfl, g, by rw [eo]; exact k d2 H2 μ2 _ _ (e1.trans e2) w2 (.bl _) p⟩⟩
instance {td ty md my} [hd : FE K td md] [hy : FE K ty my] : FE K (tDNotIn ty td) (mDIn true my md) := ⟨fun d σ H ρ μ P Q w e q k => by
  refine hy.run d σ H ρ μ _ _ w e q fun d1 H1 μ1 y u e1 w1 r1 q1 => ?_
  refine hd.run d1 σ H1 ρ μ1 _ _ w1 (e.mono e1) q1 fun d2 H2 μ2 x v e2 w2 r2 q2 => ?_
  obtain ⟨a, o, o', rfl, g, eo, p⟩ := din_run (P := fun o => P (.bl (!o.isSome)) μ2) (Q := fun _ _ => True) w2 r2 (r1.mono e2) q2
  exact ⟨a, o, rfl, g, by rw [eo]; exact k d2 H2 μ2 _ _ (e1.trans e2) w2 (.bl _) p⟩⟩
def mDPut (md my mv : ME) : MS := fun P ρ μ => mv ρ μ fun z μ1 => md ρ μ1 fun x μ2 => my ρ μ2 fun y μ3 => match x, keyP y with | .mr n, some k => (match μ3[n]? with | some (.dk kvs) => kvs.length ≤ lim ∧ P.nx ρ (μ3.set n (.dk (putP kvs k z))) | _ => False) | _, _ => False
instance {td ty tv md my mv} [hd : FE K td md] [hy : FE K ty my] [hv : FE K tv mv] : FS K (sDPut td ty tv) (mDPut md my mv) := ⟨fun d σ H ρ μ P D w e q l => by
  refine hv.run d σ H ρ μ _ _ w e q fun d1 H1 μ1 z t e1 w1 r1 q1 => ?_
  refine hd.run d1 σ H1 ρ μ1 _ _ w1 (e.mono e1) q1 fun d2 H2 μ2 x v e2 w2 r2 q2 => ?_
  refine hy.run d2 σ H2 ρ μ2 _ _ w2 (e.mono (e1.trans e2)) q2 fun d3 H3 μ3 y u e3 w3 r3 q3 => ?_
  cases r2 with
  | @mr n a h1 =>
    cases a2 : keyP y with
    | none => rw [a2] at q3; exact q3.elim
    | some kk =>
      rw [a2] at q3
      simp only at q3
      cases a3 : μ3[n]? with
      | none => rw [a3] at q3; exact q3.elim
      | some m =>
        cases m with
        | lst _ => rw [a3] at q3; exact q3.elim
        | fd _ _ _ => rw [a3] at q3; exact q3.elim
        | tk _ => rw [a3] at q3; exact q3.elim
        | ft _ _ _ => rw [a3] at q3; exact q3.elim
        | dk kvs =>
          rw [a3] at q3
          have h3 := e3.at h1
          obtain ⟨ws, hq, rk1, rk2⟩ := w3.obj h3 a3
          have rk : RKs K d3 H3 kvs ws := ⟨rk1, rk2⟩
          obtain rfl := keyP_rv r3 a2
          have ha : a ∈ d3.am := List.mem_of_getElem? h3
          have ee : Ext d3 H3 d3 (upd H3 a (.dK (putK ws kk t))) := Ext.chg ha
          have rk' := (rk.put (k := kk) (r1.mono (e2.trans e3))).mono ee
          refine ⟨a, _, rfl, .inl ⟨ws, kk, hq, rfl, by rw [← rk.len]; exact lim_lt' q3.1, rfl⟩, ?_⟩
          exact l.nx d3 σ _ ρ _ (((e1.trans e2).trans e3).trans ee) (w3.chg (m := .dk (putP kvs kk z)) h3 ⟨_, upd_same, rk'.1, rk'.2⟩) (e.mono (((e1.trans e2).trans e3).trans ee)) q3.2
  | _ => exact q3.elim⟩
class FPs (K : PySem.W.Frag) (t : List (TE × TE)) (m : outParam (PEnv → Store → (List (PV × PV) → Store → Prop) → Prop)) : Prop where
  run : ∀ (d : Wd) (σ : L2.St) (H : Hp) (ρ : PEnv) (μ : Store) (P : List (PV × PV) → Store → Prop) (Q : List (V × V) → Hp → Prop), WOk K d H μ → REnv K d H ρ σ → m ρ μ P →
    (∀ d' H' μ' ps qs, Ext d H d' H' → WOk K d' H' μ' → RVs K d' H' (ps.map (·.1)) (qs.map (·.1)) → RVs K d' H' (ps.map (·.2)) (qs.map (·.2)) → P ps μ' → Q qs H') → tPairs t σ H Q
def mPs0 : PEnv → Store → (List (PV × PV) → Store → Prop) → Prop := fun _ μ P => P [] μ
def mPs (a b : ME) (r : PEnv → Store → (List (PV × PV) → Store → Prop) → Prop) : PEnv → Store → (List (PV × PV) → Store → Prop) → Prop := fun ρ μ P => a ρ μ fun x μ1 => b ρ μ1 fun y μ2 => r ρ μ2 fun ps μ3 => P ((x, y) :: ps) μ3
instance : FPs K [] mPs0 := ⟨fun d σ H ρ μ P Q w e q k => k d H μ [] [] .refl w .nil .nil q⟩
instance {a b r m n s} [ha : FE K a m] [hb : FE K b n] [hr : FPs K r s] : FPs K ((a, b) :: r) (mPs m n s) := ⟨fun d σ H ρ μ P Q w e q k => by
  refine ha.run d σ H ρ μ _ _ w e q fun d1 H1 μ1 x v e1 w1 r1 q1 => ?_
  refine hb.run d1 σ H1 ρ μ1 _ _ w1 (e.mono e1) q1 fun d2 H2 μ2 y u e2 w2 r2 q2 => ?_
  exact hr.run d2 σ H2 ρ μ2 _ _ w2 (e.mono (e1.trans e2)) q2 fun d3 H3 μ3 ps qs e3 w3 r3 r4 q3 =>
    k d3 H3 μ3 ((x, y) :: ps) ((v, u) :: qs) ((e1.trans e2).trans e3) w3 (.cons (r1.mono (e2.trans e3)) r3) (.cons (r2.mono e3) r4) q3⟩
def keysP : List (PV × PV) → Option (List (Key × PV))
  | [] => some []
  | (x, y) :: r => match keyP x, keysP r with | some k, some ks => some ((k, y) :: ks) | _, _ => none
def mDisp (m : PEnv → Store → (List (PV × PV) → Store → Prop) → Prop) : ME := fun ρ μ P => m ρ μ fun ps μ1 => match keysP ps with | some kvs => kvs.length ≤ 15 ∧ P (.mr μ1.length) (μ1 ++ [.dk (kvs.foldl (fun acc kv => putP acc kv.1 kv.2) [])]) | none => False
theorem keysP_rv : ∀ {ps : List (PV × PV)} {qs : List (V × V)} {kvs : List (Key × PV)}, RVs K d H (ps.map (·.1)) (qs.map (·.1)) → RVs K d H (ps.map (·.2)) (qs.map (·.2)) → keysP ps = some kvs →
    ∃ ws : List (Key × V), qs = ws.map (fun kv => (kV kv.1, kv.2)) ∧ RKs K d H kvs ws
  | [], [], _, _, _, h => by cases h; exact ⟨[], rfl, .nil⟩
  | [], _ :: _, _, r, _, _ => by cases r
  | _ :: _, [], _, r, _, _ => by cases r
  | (x, y) :: ps, (v, u) :: qs, kvs, r1, r2, h => by
    simp only [keysP] at h
    cases a1 : keyP x with
    | none => rw [a1] at h; simp at h
    | some k =>
      cases a2 : keysP ps with
      | none => rw [a1, a2] at h; simp at h
      | some ks =>
        rw [a1, a2] at h; simp at h; subst h
        cases r1 with
        | cons r1 t1 =>
          cases r2 with
          | cons r2 t2 =>
            obtain ⟨ws, e, rk⟩ := keysP_rv t1 t2 a2
            have e1 : v = kV k := keyP_rv r1 a1
            have e1 : v = kV k := e1
            refine ⟨(k, u) :: ws, ?_, .cons r2 rk⟩
            rw [List.map_cons, ← e, ← e1]
theorem RKs.fold : ∀ {more : List (Key × PV)} {ws : List (Key × V)} {acc : List (Key × PV)} {as : List (Key × V)}, RKs K d H more ws → RKs K d H acc as → RKs K d H (more.foldl (fun acc kv => putP acc kv.1 kv.2) acc) (mergeK as ws)
  | [], ws, acc, as, r, ra => by
    rcases r.cases with ⟨_, e⟩ | ⟨_, _, _, _, _, e, _⟩
    · subst e; exact ra
    · cases e
  | p :: more, ws, acc, as, r, ra => by
    rcases r.cases with ⟨e, _⟩ | ⟨k', x', v', kvs', ws', e1, e2, r1, t⟩
    · cases e
    · cases e1; subst e2
      exact RKs.fold (more := more) (ws := ws') t (ra.put r1)
theorem WOk.barK {D : Addr} {o : HO} (w : WOk K d H μ) (h : H D = none) : WOk K ⟨d.am, D :: d.ban⟩ (upd H D o) μ := by
  have b : Bars d ⟨d.am, D :: d.ban⟩ H := ⟨rfl, fun x q => (List.mem_cons.mp q).elim (fun z => .inr (by rw [z]; exact h)) .inl⟩
  refine ⟨w.len, w.nd, fun i a m h1 h2 => ?_, fun x hx => ?_⟩
  · have hm := w.ob i a m h1 h2
    have hne : a ≠ D := by rintro rfl; exact w.notin h (List.mem_of_getElem? h1)
    have e : Ext ⟨d.am, D :: d.ban⟩ H ⟨d.am, D :: d.ban⟩ (upd H D o) := ⟨⟨[], by simp, fun p hp => by simp at hp⟩, rfl, fun b u e _ => by rw [upd_ne (ne_of_none e h)]; exact e⟩
    cases m with
    | lst xs => obtain ⟨vs, q, r⟩ := hm; exact ⟨vs, by rw [upd_ne hne]; exact q, (r.bars b).mono e⟩
    | dk kvs => obtain ⟨vs, q, r1, r2⟩ := hm; exact ⟨vs, by rw [upd_ne hne]; exact q, r1, (r2.bars b).mono e⟩
    | fd o ws kvs => obtain ⟨q, r1, r2⟩ := hm; exact ⟨by rw [upd_ne hne]; exact q, r1, (r2.bars b).mono e⟩
    | tk kvs => obtain ⟨vs, q, r0, r1, r2⟩ := hm; exact ⟨vs, by rw [upd_ne hne]; exact q, r0, (r1.bars b).mono e, (r2.bars b).mono e⟩
    | ft o ws kvs => obtain ⟨q, r0, r1, r2⟩ := hm; exact ⟨by rw [upd_ne hne]; exact q, r0, (r1.bars b).mono e, (r2.bars b).mono e⟩
  · rcases List.mem_cons.mp hx with z | z
    · subst z
      exact ⟨by rw [upd_same]; simp, w.notin h⟩
    · obtain ⟨q1, q2⟩ := w.ban x z
      refine ⟨?_, q2⟩
      have hne : x ≠ D := by rintro rfl; exact q1 h
      rw [upd_ne hne]; exact q1
instance {t m} [h : FPs K t m] : FE K (tDisp t) (mDisp m) := ⟨fun d σ H ρ μ P Q w e q k => by
  intro D hD
  have bD : Bars d ⟨d.am, D :: d.ban⟩ H := ⟨rfl, fun x q => (List.mem_cons.mp q).elim (fun z => .inr (by rw [z]; exact hD)) .inl⟩
  have lay0 : Ext ⟨d.am, D :: d.ban⟩ H ⟨d.am, D :: d.ban⟩ (upd H D (.dK [])) := ⟨⟨[], by simp, fun p hp => by simp at hp⟩, rfl, fun b u e _ => by rw [upd_ne (ne_of_none e hD)]; exact e⟩
  refine h.run _ σ _ ρ μ _ _ (w.barK hD) ((e.bars bD).mono lay0) q fun dB H1 μ1 ps qs e1 w1 r1 r2 q1 => ?_
  have nD : D ∉ (⟨d.am, D :: d.ban⟩ : Wd).am := w.notin hD
  have hD1 : H1 D = some (.dK []) := e1.keep _ _ upd_same nD
  refine ⟨hD1, ?_⟩
  cases a1 : keysP ps with
  | none => rw [a1] at q1; exact q1.elim
  | some kvs =>
    rw [a1] at q1
    obtain ⟨ws, eq, rk⟩ := keysP_rv r1 r2 a1
    refine ⟨ws, eq, by rw [← rk.len]; exact q1.1, ?_⟩
    have banB : D ∈ dB.ban := by rw [e1.ban]; exact List.mem_cons_self
    have nt := no_tupK hD1
    have w2 := w1.made (o := .dK (mergeK [] ws)) banB nt
    have hD2 : (upd H1 D (.dK (mergeK [] ws))) D = some (.dK (mergeK [] ws)) := upd_same
    have nt2 := no_tupK hD2
    have rk2 := rk.fold (K := K) (d := dB) (H := H1) .nil
    have hs : ∀ b ∈ d.ban, b ∈ dB.ban := fun b hb => by rw [e1.ban]; exact List.mem_cons_of_mem _ hb
    have hnD := (w1.ban D banB).2
    have hm : MOK K ⟨dB.am ++ [D], d.ban⟩ (upd H1 D (.dK (mergeK [] ws))) D (.dk (kvs.foldl (fun acc kv => putP acc kv.1 kv.2) [])) := ⟨_, hD2, rk2.1, (rk2.2.made banB nt).pushed banB nt2 hs⟩
    refine k ⟨dB.am ++ [D], d.ban⟩ _ _ _ _ ⟨?_, rfl, fun b o hb hn => ?_⟩ (w2.pushed banB nt2 hs (w.notban hD) hm) (.mr ?_) q1.2
    · obtain ⟨ex, q, f⟩ := e1.am
      refine ⟨ex ++ [D], by rw [q, List.append_assoc], fun p hp => ?_⟩
      rcases List.mem_append.mp hp with z | z
      · obtain ⟨f1, f2⟩ := f p z
        refine ⟨?_, f2⟩
        by_cases hpD : p = D
        · subst hpD; exact hD
        · rw [upd_ne hpD] at f1; exact f1
      · have e := List.mem_singleton.mp z
        subst e
        exact ⟨hD, nD⟩
    · have hne : b ≠ D := ne_of_none hb hD
      rw [upd_ne hne]
      exact e1.keep b o (by rw [upd_ne hne]; exact hb) hn
    · show (dB.am ++ [D])[μ1.length]? = some D
      rw [← w1.len, List.getElem?_append_right (Nat.le_refl _)]
      simp⟩
def isSeqD : PyData → Bool | .list _ => true | .tuple _ => true | _ => false
def rRepr (K : PySem.W.Frag) : List V → Hp → VK → Prop := fun xs H Q => ∃ x e, xs = [x] ∧ Dp K H x e ∧ isSeqD e = true ∧ e.showable = true ∧ e.hasDict = false ∧ e.depth ≤ 60 ∧ e.shown.length ≤ lim ∧ Q (.str e.shown) H
theorem cb_repr {X : Cx} (hg : X.A.guards = some []) (hu : X.A.units + 64 < cLine) : CallR X (.builtin "repr") (rRepr X.K) := by
  intro pins s σ H vs us Q I r h
  obtain ⟨x, e, rfl, hd, hs, h1, h2, h3, h4, q⟩ := h
  obtain ⟨u, rfl, ru⟩ := vals1 r
  obtain ⟨as, rd⟩ := Dp.reads I e x u hd ru
  have hv : ∃ a, u = .ref a := by
    cases rd <;> first | exact ⟨_, rfl⟩ | cases hs
  obtain ⟨a, rfl⟩ := hv
  exact repr_of_reads' rd h1 (PyData.noDict_hsm h2) hg (by omega) (fun _ _ z => z) (fun h' u tk hk => ⟨.str e.shown, H, I.kept hk, ⟨_, rfl⟩, q⟩) (lim_lt h4)
def pRepr : MB := fun xs μ P => match xs with | [x] => (match datP (frzP x μ) with | some e => (isSeqD e = true ∧ e.showable = true ∧ e.hasDict = false ∧ e.depth ≤ 60 ∧ e.shown.length ≤ lim) ∧ P (.str e.shown) μ | none => False) | _ => False
instance : FB K (rRepr K) pRepr := ⟨fun d H μ xs vs P Q w r q k => by
  match xs, r, q with
  | [x], .cons (v := v) r .nil, q =>
    unfold pRepr at q
    simp only at q
    cases e : datP (frzP x μ) with
    | none => rw [e] at q; exact q.elim
    | some dd =>
      rw [e] at q
      obtain ⟨⟨h1, h2, h3, h4, h5⟩, q⟩ := q
      exact ⟨v, dd, rfl, frz_dp w r e, h1, h2, h3, h4, h5, k d H μ _ _ .refl w (.str _) q⟩⟩
def tyP : PV → Option String
  | .non => some "NoneType" | .bl _ => some "bool" | .int _ => some "int" | .str _ => some "str" | .tup _ => some "tuple" | .lst _ => some "list" | _ => none
theorem tyP_rv {x : PV} {v : V} {T : String} (r : RV K d H x v) (h : tyP x = some T) : TyX K H v (.type T) := by
  cases r with
  | non => cases h; exact .base .non
  | bl b => cases h; exact .base (.bl b)
  | int i => cases h; exact .base (.int i)
  | str i => cases h; exact .base (.str i)
  | ty i => cases h
  | tup h1 h2 =>
    cases h
    rcases h1 with ⟨z | ⟨o, z⟩, _⟩ | (z | ⟨o, z⟩) | ⟨o, its, n, z1, z2, _⟩
    · exact .base (.tup z)
    · exact .fTuple z
    · cases z
    · cases z
    · exact .kTuple z1 z2
  | lst h1 h2 => cases h; exact .base (.lst h1.1)
  | kl h1 h2 => cases h
  | mr h1 => cases h
def pIsi : MB := fun xs μ P => match xs with | [x, .ty n] => (match tyP x with | some T => (match kitB T n with | some b => P (.bl b) μ | none => False) | none => False) | _ => False
instance : FB K (rIsi K) pIsi := ⟨fun d H μ xs vs P Q w r q k => by
  match xs, r, q with
  | [x, .ty n], .cons (v := v) r (.cons (.ty _) .nil), q =>
    unfold pIsi at q
    simp only at q
    cases e : tyP x with
    | none => rw [e] at q; exact q.elim
    | some T =>
      rw [e] at q
      simp only at q
      cases e2 : kitB T n with
      | none => rw [e2] at q; exact q.elim
      | some b =>
        rw [e2] at q
        exact ⟨v, .ty n, .type T, .type n, b, rfl, .ty n, tyP_rv r e, kit_ty e2, k d H μ _ _ .refl w (.bl _) q⟩⟩
end
end Fx
namespace Fx
open PySem PySem.Spec PyProof.Rows L2 RZ
abbrev PSp := List PV → Store → (PV → Store → Prop) → Prop
def QvOf (K : PySem.W.Frag) (d : Wd) (H : Hp) (Q : PV → Store → Prop) : VK := fun v H' => ∃ d' x μ', Ext d H d' H' ∧ WOk K d' H' μ' ∧ RV K d' H' x v ∧ Q x μ'
structure FnG (P : Program) (w : World) (K : PySem.W.Frag) (mg : Str → Option Value) (base : Heap) (k : Nat) (f : Addr) (fd : FuncData) (ps : List Str) (S : PSp) : Prop where
  len : ∀ xs μ Q, S xs μ Q → xs.length = ps.length
  run : ∀ (A : Around) (outer : List Env) (s : Shared) (H : Hp) (args : Args) (us : List Value) (vs : List V) (xs : List PV) (d : Wd) (μ : Store) (Q : PV → Store → Prop),
    Room k A → A.guards = some [] → Env0 P w K mg base A outer s H → BindsTo s fd args (ps.zip us) → Vals vs us → WOk K d H μ → RVs K d H xs vs → S xs μ Q →
    codeAny (model P w) A (.call (.ref f) args) (CR CX0 outer P w H s (QvOf K d H Q) E0) s
theorem FnG.mono {P : Program} {w : World} {K : PySem.W.Frag} {mg : Str → Option Value} {base : Heap} {j k : Nat} {f : Addr} {fd : FuncData} {ps : List Str} {S : PSp} (F : FnG P w K mg base j f fd ps S) (h : j ≤ k) : FnG P w K mg base k f fd ps S :=
  ⟨F.len, fun A outer s H args us vs xs d μ Q hr => F.run A outer s H args us vs xs d μ Q (hr.mono h)⟩
theorem FnG.imp {P : Program} {w : World} {K : PySem.W.Frag} {mg : Str → Option Value} {base : Heap} {k : Nat} {f : Addr} {fd : FuncData} {ps : List Str} {S S' : PSp} (F : FnG P w K mg base k f fd ps S) (h : ∀ xs μ Q, S' xs μ Q → S xs μ Q) : FnG P w K mg base k f fd ps S' :=
  ⟨fun xs μ Q q => F.len xs μ Q (h _ _ _ q), fun A outer s H args us vs xs d μ Q hr hg e0 hb hv w r q => F.run A outer s H args us vs xs d μ Q hr hg e0 hb hv w r (h _ _ _ q)⟩
def tCallG (K : PySem.W.Frag) (S : PSp) (t : TA) : TE := fun σ H Q => t σ H fun vs H1 => ∃ d μ xs Q', WOk K d H1 μ ∧ RVs K d H1 xs vs ∧ S xs μ Q' ∧ ∀ v H2, QvOf K d H1 Q' v H2 → Q v H2
def perm {α : Type} (ix : List Nat) (l : List α) : List α := ix.filterMap (l[·]?)
def tCallKG (K : PySem.W.Frag) (S : PSp) (ix : List Nat) (t tk : TA) : TE := fun σ H Q => t σ H fun vs H1 => tk σ H1 fun zs H2 => ∃ d μ xs Q', WOk K d H2 μ ∧ RVs K d H2 xs (perm ix (vs ++ zs)) ∧ S xs μ Q' ∧ ∀ v H3, QvOf K d H2 Q' v H3 → Q v H3
section
variable {X : Cx} {k : Nat} {f : Addr} {fd : FuncData} {ps ks : List Str} {S : PSp} {x : Str} {p pos : Pos} {e : Expr} {es : List Expr} {kws : List Keyword} {t tk : TA}
theorem go_fn {pins : List (Addr × Obj)} {σ : L2.St} {H : Hp} {s : Shared} {Q : VK} {us : List Value} {args : Args} {vs : List V} {d : Wd} {μ : Store} {xs : List PV} {Q' : PV → Store → Prop} (F : FnG X.prog X.w X.K X.mg X.base k f fd ps S) (hr : Room k X.A) (hg : X.A.guards = some [])
    (I : Inv X pins σ H s) (hb : BindsTo s fd args (ps.zip us)) (r : Vals vs us) (w : WOk X.K d H μ) (rx : RVs X.K d H xs vs) (h : S xs μ Q') (fin : ∀ v H2, QvOf X.K d H Q' v H2 → Q v H2) :
    codeAny (model X.prog X.w) X.A (.call (.ref f) args) (fun r s' => match r with | .ok (.ret u) => EP X pins σ Q u s' | _ => False) s := by
  refine codeAny_mono (F.run X.A X.stack s H args us vs xs d μ Q' hr hg I.env0 hb r w rx h) fun res s' hq => ?_
  match res, hq with
  | .ok (.ret u), hq =>
    obtain ⟨v, H', a1, a2, a3, a4, a5, a6⟩ := hq
    exact I.after ⟨v, H', a1, a2, a3, a4, a5, fin v H' a6⟩
  | .ok .next, hq => exact hq.elim
  | .ok .brk, hq => exact hq.elim
  | .ok .cont, hq => exact hq.elim
  | .error _, hq => exact hq.elim
theorem perm_rel {α β : Type} {R : α → β → Prop} {l : List α} {l' : List β} (h : Paired R l l') : ∀ ix : List Nat, Paired R (perm ix l) (perm ix l')
  | [] => .nil
  | i :: ix => by
    have ih := perm_rel h ix
    have g : ∀ {l : List α} {l' : List β} (i : Nat), Paired R l l' → (l[i]? = none ∧ l'[i]? = none) ∨ ∃ a b, l[i]? = some a ∧ l'[i]? = some b ∧ R a b := by
      intro l l' i h
      induction h generalizing i with
      | nil => exact .inl ⟨by simp, by simp⟩
      | cons r t ih =>
        cases i with
        | zero => exact .inr ⟨_, _, rfl, rfl, r⟩
        | succ i => simpa using ih i
    rcases g i h with ⟨h1, h2⟩ | ⟨a, b, h1, h2, r⟩
    · simpa [perm, h1, h2] using ih
    · simpa [perm, h1, h2] using Paired.cons r ih
theorem perm_rvs {K : PySem.W.Frag} {d : Wd} {H : Hp} {xs : List PV} {vs : List V} (h : RVs K d H xs vs) : ∀ ix : List Nat, RVs K d H (perm ix xs) (perm ix vs)
  | [] => .nil
  | i :: ix => by
    have ih := perm_rvs h ix
    cases e : xs[i]? with
    | none =>
      have e2 : vs[i]? = none := by
        have := List.getElem?_eq_none_iff.mp e
        exact List.getElem?_eq_none_iff.mpr (by rw [← h.length]; exact this)
      simpa [perm, e, e2] using ih
    | some a =>
      obtain ⟨b, e2, r⟩ := h.get e
      simpa [perm, e, e2] using RVs.cons r ih
theorem pe_callG (F : FnG X.prog X.w X.K X.mg X.base k f fd ps S) (hr : Room k X.A) (hgd : X.A.guards = some []) (hg : Gl X x) (hm : X.mg x = some (.ref f)) (hk : PySem.W.keepIn X.K (.ref f) = true) (hb : Binds X.K fd ps [])
    (ha : PA X (e :: es) t) (hdb : (x == ("__debug__" : Str)) = false := by decide) (he : starEach (e :: es) X.env = (false, eval e X.env) :: starEach es X.env := by rfl) (hpl : (backTo pos (starEach es X.env)).any (·.1) = false := by rfl) :
    PE X (.Call (.Name x p) (e :: es) [] pos) (tCallG X.K S t) := ⟨fun pins s σ H Q I h => by
  refine wpAny_Call_Name_kw (ld_glob I hg hm (PySem.W.callWith_K (h₀ := X.base) I.ok.mod.kin hk (thn (ha.run pos pins s σ H _ I h) fun us s1 hq => ?_) he hpl) hdb)
  obtain ⟨vs, H1, I1, r, d, μ, xs, Q', w, rx, hS, fin⟩ := hq
  have hl : us.length = ps.length := by rw [← r.length, ← rx.length]; exact F.len _ _ _ hS
  refine ⟨I1.kIn, wpAny_call ?_⟩
  have hb' := hb s1 us I1.kIn (by rw [List.append_nil]; exact hl)
  rw [List.append_nil] at hb'
  exact codeAny_mono (go_fn F hr hgd I1 hb' r w rx hS fin) fun res s' hq => by
    match res, hq with
    | .ok (.ret u), hq => exact hq⟩
def KBs (fd : FuncData) (ps ks : List Str) (n : Nat) (ix : List Nat) : Prop := ∀ (s : Shared) (us ws : List Value), us.length = n → ws.length = ks.length → BindsTo s fd ⟨us, ks.zip ws⟩ (ps.zip (perm ix (us ++ ws)))
theorem pe_callK0G {ix : List Nat} (F : FnG X.prog X.w X.K X.mg X.base k f fd ps S) (hr : Room k X.A) (hgd : X.A.guards = some []) (hg : Gl X x) (hm : X.mg x = some (.ref f)) (hk : PySem.W.keepIn X.K (.ref f) = true) (hb : KBs fd ps ks 0 ix)
    (hkw : PK X kws tk) (hln : ∀ ws : List Value, True := by intro _; trivial) (hall : (backToKw pos (keywordEach kws X.env)).all (·.1.isSome) = true := by rfl) (hks : (backToKw pos (keywordEach kws X.env)).filterMap (·.1) = ks := by rfl)
    (hn : kws.length = ks.length := by rfl) (hix : ∀ zs : List V, zs.length = ks.length → True := by intro _ _; trivial) (hdb : (x == ("__debug__" : Str)) = false := by decide)
    (hpl : ((backTo pos (starEach [] X.env)).any (·.1) || (backToKw pos (keywordEach kws X.env)).any (·.1.isNone)) = false := by rfl) (hkl : ((backToKw pos (keywordEach kws X.env)).map (·.2)).length = ks.length := by rfl) :
    PE X (.Call (.Name x p) [] kws pos) (tCallKG X.K S ix (fun _ H Q => Q [] H) (fun σ H Q => tk σ H fun zs H1 => zs.length = ks.length ∧ Q zs H1)) := ⟨fun pins s σ H Q I h => by
  refine wpAny_Call_Name_kw (ld_glob I hg hm (PySem.W.callWith_KW0 (h₀ := X.base) I.ok.mod.kin hk hall (thn (hkw.run pos pins s σ H _ I h) fun ws s2 hq => ?_) hpl) hdb)
  obtain ⟨zs, H2, I2, rz, hz, d, μ, xs, Q', w, rx, hS, fin⟩ := hq
  refine ⟨I2.kIn, wpAny_call ?_⟩
  rw [hks]
  have rz' : Vals (perm ix ([] ++ zs)) (perm ix ([] ++ ws)) := perm_rel (by simpa using rz) ix
  exact codeAny_mono (go_fn F hr hgd I2 (hb s2 [] ws rfl (by rw [← rz.length]; exact hz)) rz' w rx hS fin) fun res s' hq => by
    match res, hq with
    | .ok (.ret u), hq => exact hq⟩
end
section
variable {K : PySem.W.Frag}
def mCall (S : PSp) (m : MA) : ME := fun ρ μ P => m ρ μ fun xs μ1 => S xs μ1 P
instance {S t m} [h : FA K t m] : FE K (tCallG K S t) (mCall S m) := ⟨fun d σ H ρ μ P Q w e q k => by
  refine h.run d σ H ρ μ _ _ w e q fun d1 H1 μ1 xs vs e1 w1 r1 q1 => ?_
  refine ⟨d1, μ1, xs, P, w1, r1, q1, fun v H2 ⟨d2, x, μ2, e2, w2, r2, q2⟩ => k d2 H2 μ2 x v (e1.trans e2) w2 r2 q2⟩⟩
def mCallK (S : PSp) (ix : List Nat) (n : Nat) (m : MA) : ME := fun ρ μ P => m ρ μ fun xs μ1 => xs.length = n ∧ S (perm ix xs) μ1 P
instance {S ix t m} {n : Nat} [h : FA K t m] : FE K (tCallKG K S ix (fun _ H Q => Q [] H) (fun σ H Q => t σ H fun zs H1 => zs.length = n ∧ Q zs H1)) (mCallK S ix n m) := ⟨fun d σ H ρ μ P Q w e q k => by
  refine h.run d σ H ρ μ _ _ w e q fun d1 H1 μ1 xs vs e1 w1 r1 q1 => ?_
  refine ⟨by rw [← r1.length]; exact q1.1, d1, μ1, perm ix xs, P, w1, by simpa using perm_rvs r1 ix, q1.2, fun v H2 ⟨d2, x, μ2, e2, w2, r2, q2⟩ => k d2 H2 μ2 x v (e1.trans e2) w2 r2 q2⟩⟩
end
mutual
def noRef : PV → Bool
  | .mr _ => false
  | .tup xs => noRefs xs
  | .lst xs => noRefs xs
  | .kl xs => noRefs xs
  | _ => true
def noRefs : List PV → Bool
  | [] => true
  | x :: xs => noRef x && noRefs xs
end
inductive Gc (μ0 : Store) (x : PV) (μ : Store) : PV → Store → Prop
  | keep : Gc μ0 x μ x μ
  | drop (g : Store) : μ = μ0 ++ g → noRef x = true → Gc μ0 x μ x μ0
  | froz (n : Nat) (g : Store) (xs : List PV) : x = .mr n → μ = μ0 ++ g → μ[n]? = some (.lst xs) → μ0.length ≤ n → noRefs xs = true → Gc μ0 x μ (.lst xs) μ0
  | newl (n : Nat) (g : Store) (xs : List PV) : x = .mr n → μ = μ0 ++ g → μ[n]? = some (.lst xs) → μ0.length ≤ n → noRefs xs = true → Gc μ0 x μ (.mr μ0.length) (μ0 ++ [.lst xs])
  | newd (n : Nat) (g : Store) (kvs : List (Key × PV)) : x = .mr n → μ = μ0 ++ g → μ[n]? = some (.dk kvs) → μ0.length ≤ n → noRefs (kvs.map (·.2)) = true → Gc μ0 x μ (.mr μ0.length) (μ0 ++ [.dk kvs])
  | froz2 (n : Nat) (g : Store) (ks : List Nat) (yss : List (List PV)) : x = .mr n → μ = μ0 ++ g → μ[n]? = some (.lst (ks.map .mr)) → μ0.length ≤ n → ks.length = yss.length →
      (∀ (i k : Nat) (ys : List PV), ks[i]? = some k → yss[i]? = some ys → μ[k]? = some (.lst ys) ∧ μ0.length ≤ k ∧ noRefs ys = true) → Gc μ0 x μ (.lst (yss.map .lst)) μ0
section
variable {K : PySem.W.Frag} {d d' : Wd} {H H' : Hp} {μ0 μ : Store}
mutual
theorem RV.fewer {am : List Addr} (ha : ∀ b ∈ am, b ∈ d.am) : ∀ {x : PV} {v : V}, RV K d H x v → noRef x = true → RV K ⟨am, d.ban⟩ H x v
  | _, _, .non, _ => .non
  | _, _, .bl b, _ => .bl b
  | _, _, .int i, _ => .int i
  | _, _, .str x, _ => .str x
  | _, _, .ty n, _ => .ty n
  | _, _, .tup h r, z => .tup (h.imp (fun q => ⟨q.1, fun m => q.2 (ha _ m)⟩) id) (RVs.fewer ha r z)
  | _, _, .lst h r, z => .lst ⟨h.1, fun m => h.2.1 (ha _ m), h.2.2⟩ (RVs.fewer ha r z)
  | _, _, .kl h r, z => .kl (h.imp (fun q => ⟨q.1, fun m => q.2.1 (ha _ m), q.2.2⟩) id) (RVs.fewer ha r z)
  | _, _, .mr h, z => by cases z
theorem RVs.fewer {am : List Addr} (ha : ∀ b ∈ am, b ∈ d.am) : ∀ {xs : List PV} {vs : List V}, RVs K d H xs vs → noRefs xs = true → RVs K ⟨am, d.ban⟩ H xs vs
  | _, _, .nil, _ => .nil
  | _, _, .cons r t, z => by
    simp only [noRefs, Bool.and_eq_true] at z
    exact .cons (RV.fewer ha r z.1) (RVs.fewer ha t z.2)
end
mutual
theorem RV.back {am am2 bn : List Addr} {H0 : Hp} (hs : ∀ b ∈ am2, b ∈ d'.am) (hp : ∀ (n : Nat) b, am[n]? = some b → am2[n]? = some b ∧ d'.am[n]? = some b) : ∀ {x : PV} {v u : V}, RV K ⟨am, bn⟩ H0 x v → RV K d' H' x u → RV K ⟨am2, d'.ban⟩ H' x u
  | _, _, _, .non, .non => .non
  | _, _, _, .bl b, .bl _ => .bl b
  | _, _, _, .int i, .int _ => .int i
  | _, _, _, .str x, .str _ => .str x
  | _, _, _, .ty n, .ty _ => .ty n
  | _, _, _, .tup _ r, .tup h' r' => .tup (h'.imp (fun q => ⟨q.1, fun m => q.2 (hs _ m)⟩) id) (RVs.back hs hp r r')
  | _, _, _, .lst _ r, .lst h r' => .lst ⟨h.1, fun m => h.2.1 (hs _ m), h.2.2⟩ (RVs.back hs hp r r')
  | _, _, _, .kl _ r, .kl h' r' => .kl (h'.imp (fun q => ⟨q.1, fun m => q.2.1 (hs _ m), q.2.2⟩) id) (RVs.back hs hp r r')
  | _, _, _, .mr h, .mr h' => .mr (by
      obtain ⟨h1, h2⟩ := hp _ _ h
      rw [h2] at h'; cases h'
      exact h1)
theorem RVs.back {am am2 bn : List Addr} {H0 : Hp} (hs : ∀ b ∈ am2, b ∈ d'.am) (hp : ∀ (n : Nat) b, am[n]? = some b → am2[n]? = some b ∧ d'.am[n]? = some b) : ∀ {xs : List PV} {vs us : List V}, RVs K ⟨am, bn⟩ H0 xs vs → RVs K d' H' xs us → RVs K ⟨am2, d'.ban⟩ H' xs us
  | _, _, _, .nil, .nil => .nil
  | _, _, _, .cons r t, .cons r' t' => .cons (RV.back hs hp r r') (RVs.back hs hp t t')
end
theorem MOK.back {am am2 bn : List Addr} {H0 : Hp} {a : Addr} (hs : ∀ b ∈ am2, b ∈ d'.am) (hp : ∀ (n : Nat) b, am[n]? = some b → am2[n]? = some b ∧ d'.am[n]? = some b) {m : MO} (m0 : MOK K ⟨am, bn⟩ H0 a m) (m1 : MOK K d' H' a m) : MOK K ⟨am2, d'.ban⟩ H' a m := by
  cases m with
  | lst xs =>
    obtain ⟨vs, q, r⟩ := m0
    obtain ⟨us, q', r'⟩ := m1
    exact ⟨us, q', RVs.back hs hp r r'⟩
  | dk kvs =>
    obtain ⟨vs, q, r1, r⟩ := m0
    obtain ⟨us, q', r1', r'⟩ := m1
    exact ⟨us, q', r1', RVs.back hs hp r r'⟩
  | fd o ws kvs =>
    obtain ⟨q, r1, r⟩ := m0
    obtain ⟨q', r1', r'⟩ := m1
    exact ⟨q', r1', RVs.back hs hp r r'⟩
  | tk kvs =>
    obtain ⟨vs, q, r0, r1, r⟩ := m0
    obtain ⟨us, q', r0', r1', r'⟩ := m1
    exact ⟨us, q', r0', RVs.back hs hp r1 r1', RVs.back hs hp r r'⟩
  | ft o ws kvs =>
    obtain ⟨q, r0, r1, r⟩ := m0
    obtain ⟨q', r0', r1', r'⟩ := m1
    exact ⟨q', r0', RVs.back hs hp r1 r1', RVs.back hs hp r r'⟩
theorem WOk.back {g : Store} (e : Ext d H d' H') (w0 : WOk K d H μ0) (w : WOk K d' H' (μ0 ++ g)) : Ext d H d H' ∧ WOk K d H' μ0 := by
  obtain ⟨am, bn⟩ := d
  have hb := e.ban
  simp only at hb
  refine ⟨⟨⟨[], by simp, fun p hp => by simp at hp⟩, rfl, e.keep⟩, w0.len, w0.nd, fun i a m h1 h2 => ?_, fun b hb' => ?_⟩
  · have hi : i < μ0.length := (List.getElem?_eq_some_iff.mp h2).1
    have h3 : (μ0 ++ g)[i]? = some m := by rw [List.getElem?_append_left hi]; exact h2
    have := MOK.back (am2 := am) (fun b hb => e.mem hb) (fun n b q => ⟨q, e.at q⟩) (w0.ob i a m h1 h2) (w.ob i a m (e.at h1) h3)
    rw [hb] at this
    exact this
  · obtain ⟨q1, q2⟩ := w.ban b (by rw [hb]; exact hb')
    exact ⟨q1, fun z => q2 (e.mem z)⟩
theorem Gc.ok {x y : PV} {μ' : Store} {v : V} (h : Gc μ0 x μ y μ') (e : Ext d H d' H') (w0 : WOk K d H μ0) (w : WOk K d' H' μ) (r : RV K d' H' x v) : ∃ d2, Ext d H d2 H' ∧ WOk K d2 H' μ' ∧ RV K d2 H' y v := by
  obtain ⟨ex, ha, hf⟩ := e.am
  have eb : (⟨d.am, d'.ban⟩ : Wd) = d := by rw [e.ban]
  have later : ∀ {n : Nat} {a : Addr}, d'.am[n]? = some a → μ0.length ≤ n → a ∉ d.am := fun {n a} h1 hm z => by
    obtain ⟨j, hj, ej⟩ := List.getElem_of_mem z
    have h2 : d'.am[j]? = some a := e.at (by rw [List.getElem?_eq_getElem hj, ej])
    obtain ⟨l1, z1⟩ := List.getElem?_eq_some_iff.mp h1
    obtain ⟨l2, z2⟩ := List.getElem?_eq_some_iff.mp h2
    have := (List.getElem_inj w.nd).mp (z1.trans z2.symm)
    have h4 := w0.len
    omega
  cases h with
  | keep => exact ⟨d', e, w, r⟩
  | drop g hg hn =>
    subst hg
    obtain ⟨e1, w1⟩ := WOk.back e w0 w
    have := RV.fewer (am := d.am) (fun b hb => e.mem hb) r hn
    rw [eb] at this
    exact ⟨d, e1, w1, this⟩
  | froz n g xs hx hg hm hn hr =>
    subst hg; subst hx
    obtain ⟨e1, w1⟩ := WOk.back e w0 w
    cases r with
    | @mr _ a h1 =>
      obtain ⟨vs, q, rv⟩ := w.obj h1 hm
      have := RVs.fewer (am := d.am) (fun b hb => e.mem hb) rv hr
      rw [eb] at this
      exact ⟨d, e1, w1, .lst ⟨q, later h1 hn, fun z => (w.ban a (by rw [e.ban]; exact z)).2 (List.mem_of_getElem? h1)⟩ this⟩
  | newl n g xs hx hg hm hn hr =>
    subst hg; subst hx
    obtain ⟨e1, w1⟩ := WOk.back e w0 w
    cases r with
    | @mr _ a h1 =>
      obtain ⟨vs, q, rv⟩ := w.obj h1 hm
      have hna : a ∉ d.am := later h1 hn
      have hae : a ∈ ex := by
        have := List.mem_of_getElem? h1
        rw [ha] at this
        exact (List.mem_append.mp this).resolve_left hna
      have hHa := (hf a hae).1
      have sub : ∀ b, b ∈ d.am ++ [a] → b ∈ d'.am := fun b hb => by
        rcases List.mem_append.mp hb with z | z
        · exact e.mem z
        · rw [List.mem_singleton.mp z]; exact List.mem_of_getElem? h1
      have rs : RVs K ⟨d.am ++ [a], d.ban⟩ H' xs vs := by
        have := RVs.fewer (am := d.am ++ [a]) sub rv hr
        rw [e.ban] at this
        exact this
      refine ⟨⟨d.am ++ [a], d.ban⟩, ⟨⟨[a], rfl, fun p hp => by
        have e := List.mem_singleton.mp hp
        subst e; exact ⟨hHa, hna⟩⟩, rfl, e1.keep⟩, ⟨by simp [w0.len], ?_, fun i b m h2 h3 => ?_, fun b hb' => ?_⟩, .mr ?_⟩
      · show (d.am ++ [a]).Nodup
        rw [List.nodup_append]
        exact ⟨w0.nd, by simp, fun x hx y hy => by
          have := List.mem_singleton.mp hy
          subst this; rintro rfl; exact hna hx⟩
      · replace h2 : (d.am ++ [a])[i]? = some b := h2
        by_cases hi : i < d.am.length
        · rw [List.getElem?_append_left hi] at h2
          have hi' : i < μ0.length := by rw [← w0.len]; exact hi
          rw [List.getElem?_append_left hi'] at h3
          have h4 : (μ0 ++ g)[i]? = some m := by rw [List.getElem?_append_left hi']; exact h3
          have := MOK.back (am := d.am) (bn := d.ban) (am2 := d.am ++ [a]) sub (fun n b q => ⟨by rw [List.getElem?_append_left (List.getElem?_eq_some_iff.mp q).1]; exact q, e.at q⟩) (w0.ob i b m h2 h3) (w.ob i b m (e.at h2) h4)
          rw [e.ban] at this
          exact this
        · have hi2 : i = d.am.length := by
            have := (List.getElem?_eq_some_iff.mp h2).1
            simp at this; omega
          subst hi2
          rw [List.getElem?_append_right (Nat.le_refl _)] at h2
          rw [w0.len, List.getElem?_append_right (Nat.le_refl _)] at h3
          simp at h2 h3
          subst h2; subst h3
          exact ⟨vs, q, rs⟩
      · obtain ⟨q1, q2⟩ := w.ban b (by rw [e.ban]; exact hb')
        exact ⟨q1, fun z => q2 (sub b z)⟩
      · show (d.am ++ [a])[μ0.length]? = some a
        rw [← w0.len, List.getElem?_append_right (Nat.le_refl _)]
        simp
  | newd n g kvs hx hg hm hn hr =>
    subst hg; subst hx
    obtain ⟨e1, w1⟩ := WOk.back e w0 w
    cases r with
    | @mr _ a h1 =>
      obtain ⟨vs, q, rk, rv⟩ := w.obj h1 hm
      have hna : a ∉ d.am := later h1 hn
      have hae : a ∈ ex := by
        have := List.mem_of_getElem? h1
        rw [ha] at this
        exact (List.mem_append.mp this).resolve_left hna
      have hHa := (hf a hae).1
      have sub : ∀ b, b ∈ d.am ++ [a] → b ∈ d'.am := fun b hb => by
        rcases List.mem_append.mp hb with z | z
        · exact e.mem z
        · rw [List.mem_singleton.mp z]; exact List.mem_of_getElem? h1
      have rs : RVs K ⟨d.am ++ [a], d.ban⟩ H' (kvs.map (·.2)) (vs.map (·.2)) := by
        have := RVs.fewer (am := d.am ++ [a]) sub rv hr
        rw [e.ban] at this
        exact this
      refine ⟨⟨d.am ++ [a], d.ban⟩, ⟨⟨[a], rfl, fun p hp => by
        have e := List.mem_singleton.mp hp
        subst e; exact ⟨hHa, hna⟩⟩, rfl, e1.keep⟩, ⟨by simp [w0.len], ?_, fun i b m h2 h3 => ?_, fun b hb' => ?_⟩, .mr ?_⟩
      · show (d.am ++ [a]).Nodup
        rw [List.nodup_append]
        exact ⟨w0.nd, by simp, fun x hx y hy => by
          have := List.mem_singleton.mp hy
          subst this; rintro rfl; exact hna hx⟩
      · replace h2 : (d.am ++ [a])[i]? = some b := h2
        by_cases hi : i < d.am.length
        · rw [List.getElem?_append_left hi] at h2
          have hi' : i < μ0.length := by rw [← w0.len]; exact hi
          rw [List.getElem?_append_left hi'] at h3
          have h4 : (μ0 ++ g)[i]? = some m := by rw [List.getElem?_append_left hi']; exact h3
          have := MOK.back (am := d.am) (bn := d.ban) (am2 := d.am ++ [a]) sub (fun n b q => ⟨by rw [List.getElem?_append_left (List.getElem?_eq_some_iff.mp q).1]; exact q, e.at q⟩) (w0.ob i b m h2 h3) (w.ob i b m (e.at h2) h4)
          rw [e.ban] at this
          exact this
        · have hi2 : i = d.am.length := by
            have := (List.getElem?_eq_some_iff.mp h2).1
            simp at this; omega
          subst hi2
          rw [List.getElem?_append_right (Nat.le_refl _)] at h2
          rw [w0.len, List.getElem?_append_right (Nat.le_refl _)] at h3
          simp at h2 h3
          subst h2; subst h3
          exact ⟨vs, q, rk, rs⟩
      · obtain ⟨q1, q2⟩ := w.ban b (by rw [e.ban]; exact hb')
        exact ⟨q1, fun z => q2 (sub b z)⟩
      · show (d.am ++ [a])[μ0.length]? = some a
        rw [← w0.len, List.getElem?_append_right (Nat.le_refl _)]
        simp
  | froz2 n g ks yss hx hg hm hn hl hk =>
    subst hg; subst hx
    obtain ⟨e1, w1⟩ := WOk.back e w0 w
    cases r with
    | @mr _ a h1 =>
      obtain ⟨vs, q, rv⟩ := w.obj h1 hm
      have nb : ∀ {n : Nat} {a : Addr}, d'.am[n]? = some a → a ∉ d.ban := fun {n a} h z => (w.ban a (by rw [e.ban]; exact z)).2 (List.mem_of_getElem? h)
      have go : ∀ (ks : List Nat) (yss : List (List PV)) (vs : List V), ks.length = yss.length → (∀ (i k : Nat) (ys : List PV), ks[i]? = some k → yss[i]? = some ys → (μ0 ++ g)[k]? = some (.lst ys) ∧ μ0.length ≤ k ∧ noRefs ys = true) →
          RVs K d' H' (ks.map .mr) vs → RVs K d H' (yss.map .lst) vs := by
        intro ks
        induction ks with
        | nil =>
          intro yss vs hl hk rv
          cases yss with
          | nil => cases rv; exact .nil
          | cons y r => simp at hl
        | cons k ks ih =>
          intro yss vs hl hk rv
          cases yss with
          | nil => simp at hl
          | cons ys yss =>
            cases rv with
            | cons r1 rv =>
              refine .cons ?_ (ih yss _ (by simpa using hl) (fun i k ys h2 h3 => hk (i + 1) k ys (by simpa using h2) (by simpa using h3)) rv)
              cases r1 with
              | @mr _ b h2 =>
                obtain ⟨z1, z2, z3⟩ := hk 0 k ys rfl rfl
                obtain ⟨us, q2, ru⟩ := w.obj h2 z1
                have := RVs.fewer (am := d.am) (fun b hb => e.mem hb) ru z3
                rw [eb] at this
                exact .lst ⟨q2, later h2 z2, nb h2⟩ this
      exact ⟨d, e1, w1, .lst ⟨q, later h1 hn, nb h1⟩ (go ks yss vs hl hk rv)⟩
end
def startP (N : List Str) (xs : List PV) : PEnv := xs.map some ++ List.replicate (N.length - xs.length) none
theorem start_env {K : PySem.W.Frag} {d : Wd} {H : Hp} {N : List Str} {xs : List PV} {vs : List V} (r : RVs K d H xs vs) : REnv K d H (startP N xs) (L2.start N vs) := by
  unfold startP L2.start
  refine ⟨by simp [r.length], fun i x h => ?_⟩
  by_cases hi : i < xs.length
  · rw [List.getElem?_append_left (by simpa using hi), List.getElem?_map] at h
    rw [List.getElem?_append_left (by simpa [← r.length] using hi), List.getElem?_map]
    cases e : xs[i]? with
    | none => rw [e] at h; cases h
    | some y =>
      rw [e] at h; simp at h; subst h
      obtain ⟨v, e2, rv⟩ := r.get e
      exact ⟨v, by rw [e2]; rfl, rv⟩
  · rw [List.getElem?_append_right (by simpa using hi), List.getElem?_replicate] at h
    split at h <;> cases h
def mEnd (μ0 : Store) (Q : PV → Store → Prop) : MEnds := { nx := fun _ μ => ∃ y μ', Gc μ0 .non μ y μ' ∧ Q y μ', rt := fun x μ => ∃ y μ', Gc μ0 x μ y μ' ∧ Q y μ' }
theorem FnG.of {P : Program} {w : World} {K : PySem.W.Frag} {mg : Str → Option Value} {base : Heap} {x qual : Str} {st : Stmt} {f : Addr} {fd : FuncData} {N ps : List Str} {k : Nat} {S : PSp} (F : Fun K x qual st f fd) (sc : FnScope N ps (defScope st))
    (len : ∀ xs μ Q, S xs μ Q → xs.length = ps.length)
    (hbody : ∀ (cdv : Value) (A : Around) (outer : List Env) (s : Shared) (H : Hp), Room k (A.deeper (envOfC qual (defScope st) s.heap.objs.size f cdv)) → A.guards = some [] →
      ∃ t m, PSs (cxOf CX0 P w K mg base N qual (defScope st) f cdv A outer s H E0).nox (defBody st) t ∧ FS K t m ∧ ∀ xs μ Q, S xs μ Q → m (mEnd μ Q) (startP N xs) μ) : FnG P w K mg base (k + 1) f fd ps S := by
  obtain ⟨oc, od, kV, doc, pm, an, cdv, ct, osl, rfl, lk, hcd⟩ := F.ex
  refine ⟨len, fun A outer s H args us vs xs d μ Q hr hgd e0 hb hv wk rx hS => ?_⟩
  have hl : vs.length = ps.length := by rw [← rx.length]; exact len _ _ _ hS
  have kp := fun b o e => (e0.bs b o e).1
  have KX : K.In s.heap := e0.mod.kin.keeps kp
  refine codeAny_call_function hr.depth (KX _ _ lk) rfl sc.co sc.gen rfl (PySem.W.codeRec_of KX hcd) (hb _ _ _ _ ?_)
  refine wpAny_newFunctionEnv_cells sc.kind (fun p hp => ?_) fun env he s1 en => ?_
  · obtain ⟨n, u⟩ := p
    exact (sc.par n (List.of_mem_zip hp).1).imp id fun q => ⟨q, PySem.W.cellsFrom_some _ _ _ (.inl q)⟩
  subst he
  obtain ⟨t, m, hP, hF, hM⟩ := hbody cdv A outer s H (hr.deeper _) hgd
  have I := (inv_start (CX := CX0) (qual := qual) (f := f) (cd := cdv) (A := A) (outer := outer) (E := E0) sc hr.hd e0 hl hv en).wish (fun _ _ => False)
  have reading := hF.run d (L2.start N vs) H (startP N xs) μ (mEnd μ Q) { nx := fun _ H' => QvOf K d H Q .non H', rt := QvOf K d H Q } wk (start_env rx) (hM xs μ Q hS)
    ⟨fun d' σ' H' ρ' μ' e' w' _ ⟨y, μ2, g, q⟩ => by
        obtain ⟨d2, a1, a2, a3⟩ := g.ok e' wk w' .non
        exact ⟨d2, y, μ2, a1, a2, a3, q⟩,
     fun d' H' μ' z v e' w' r ⟨y, μ2, g, q⟩ => by
        obtain ⟨d2, a1, a2, a3⟩ := g.ok e' wk w' r
        exact ⟨d2, y, μ2, a1, a2, a3, q⟩,
     fun _ _ _ _ _ _ _ _ q => q.elim, fun _ _ _ _ _ _ _ _ q => q.elim⟩
  refine ⟨e0.mod.nolimit.keeps (fun b o z => en.toInCall.keep b o (kp b o z)), codeAny_func (wpAny_mono (hP.run [] s1 (L2.start N vs) H _ I reading) (fun fl s' hs => ?_) fun _ _ z => z.elim)⟩
  match fl, hs with
  | .ret u, ⟨v, σ', H', J, rv, q⟩ => exact ⟨v, H', J.os, J.bare, J.base, J.hok, rv, q⟩
  | .next, ⟨σ', H', J, q⟩ => exact ⟨.non, H', J.os, J.bare, J.base, J.hok, rfl, q⟩
  | .brk, ⟨_, _, _, q⟩ => exact q.elim
  | .cont, ⟨_, _, _, q⟩ => exact q.elim
end Fx
namespace Fx
open PySem PySem.Spec PyProof.Rows L2 RZ
theorem law_go {P : Program} {w : World} {K : PySem.W.Frag} {mg mb : Str → Option Value} {k : Nat} {fa a : Addr} {fd : FuncData} {x : Str} {S : PSp} {s₁ : Shared} {us : List Value} {ns : List Int}
    (hK : K.In s₁.heap) (gl : s₁.heap.Ns mainGlobals mg) (bl : s₁.heap.Ns builtinsNs mb) (bb : ∀ y : Str, y ≠ "__name__" → mb y = bootBuiltins y) (nl : s₁.heap.NoLimit) (gn : s₁.gens = #[])
    (ob : s₁.heap.get? a = some { cls := .type "list", data := .seq us.toArray }) (is : IntsAre us ns) (sz : ns.length ≤ sizeLine) (room : Room k callerA)
    (F : ∀ base : Heap, K.In base → base.Ns mainGlobals mg → FnG P w K mg base k fa fd [x] S) (bind : ∀ (s : Shared) (u : Value), BindsTo s fd ⟨[u], []⟩ [(x, u)])
    (hS : S [.kl (ns.map PV.int)] [] (fun v _ => v = .bl true)) :
    codeAny (model P w) callerA (.call (.ref fa) ⟨[.ref a], []⟩) (fun r s' => r = .ok (.ret (.bool true)) ∧ OldK s₁.heap s'.heap ∧ s'.os = s₁.os ∧ AllBare s'.gens) s₁ := by
  have vals := vals_ints is
  have lens := is.length
  suffices core : ∀ H : Hp, Only H → SqL K H a (ns.map V.int) → HOk P w H s₁.heap → (∀ b, H b ≠ none → b = a ∧ K.lookup a = none) →
      codeAny (model P w) callerA (.call (.ref fa) ⟨[.ref a], []⟩) (fun r s' => r = .ok (.ret (.bool true)) ∧ OldK s₁.heap s'.heap ∧ s'.os = s₁.os ∧ AllBare s'.gens) s₁ by
    cases hk : K.lookup a with
    | some o =>
      have e := hK a o hk
      rw [ob] at e
      cases e
      exact core hp0 (fun _ => .inl rfl) (.inr ⟨_, us.toArray, _, hk, rfl, rfl, rfl, by rw [List.size_toArray, lens]; exact sz, by simpa using vals⟩) (fun b u z => by cases z) fun b z => absurd rfl z
    | none =>
      have there : HOk P w (upd hp0 a (.frz { cls := .type "list", data := .seq us.toArray } (.lst (ns.map V.int)))) s₁.heap := fun b u z => by
        by_cases hb : b = a
        · subst hb
          rw [upd_same] at z; cases z
          exact ⟨ob, by rw [List.length_map]; exact sz, us, _, vals, ob⟩
        · rw [upd_ne hb] at z; cases z
      refine core _ (fun b => ?_) (.inl (.inr ⟨_, upd_same⟩)) there fun b z => ?_
      · by_cases hb : b = a
        · subst hb; exact .inr ⟨_, _, upd_same⟩
        · exact .inl (upd_ne hb)
      · by_cases hb : b = a
        · exact ⟨hb, hk⟩
        · exact absurd (upd_ne hb) z
  intro H only sq hok away
  have plainB : ∀ {b : Addr} {o : Obj}, s₁.heap.get? b = some o → H b = none → (hidT s₁.heap H).get? b = some o := fun e n => hidT_get e n
  have dictB : ∀ {b : Addr} {o : Obj} {es : Array DictEntry} {ep : Nat}, s₁.heap.get? b = some o → o.data = .dict es ep → H b = none := fun {b o es ep} e dd => by
    cases q : H b with
    | none => rfl
    | some u =>
      obtain ⟨z, _⟩ := away b (by rw [q]; simp)
      subst z
      rw [ob] at e; cases e
      exact nomatch (show Data.seq us.toArray _ = Data.dict es ep from dd)
  have nsB : ∀ {b : Addr} {m : Str → Option Value}, s₁.heap.Ns b m → (hidT s₁.heap H).Ns b m := fun ⟨o, es, ep, e, dd, r⟩ => ⟨o, es, ep, plainB e (dictB e dd), dd, r⟩
  have inB : K.In (hidT s₁.heap H) := fun b o e => plainB (hK b o e) (by
    cases q : H b with
    | none => rfl
    | some u =>
      obtain ⟨z, z2⟩ := away b (by rw [q]; simp)
      subst z
      rw [z2] at e; cases e)
  have md : Mod K mg (hidT s₁.heap H) := ⟨inB, nsB gl, ⟨mb, nsB bl, bb⟩, let ⟨mc, h1, h2⟩ := nl; ⟨mc, nsB h1, h2⟩⟩
  have none_in : ∀ b, b ∉ frs ([] : List Env) := fun b z => by cases z
  have env : Env0 P w K mg (hidT s₁.heap H) callerA [] s₁ H := ⟨rfl, md, fun b o e => of_hidT e, Nat.le_of_eq (hidT_size _ _), trivial, fun b hb => absurd hb (none_in b), hok, .of_eq gn⟩
  have wk : WOk K ⟨[], []⟩ H [] := ⟨rfl, List.nodup_nil, fun i b m h _ => by simp at h, fun b hb => by cases hb⟩
  have kl : RV K ⟨[], []⟩ H (.kl (ns.map PV.int)) (.ref a) := by
    refine .kl ?_ (RVs.of_ints ns)
    rcases sq with sq | sq
    · exact .inl ⟨sq, (fun z => by cases z), (fun z => by cases z)⟩
    · exact .inr (.inr sq)
  refine codeAny_mono ((F _ inB (nsB gl)).run callerA [] s₁ H ⟨[.ref a], []⟩ [.ref a] [.ref a] [.kl (ns.map PV.int)] ⟨[], []⟩ [] _ room rfl env (bind s₁ (.ref a)) (.cons rfl .nil) wk (.cons kl .nil) hS) fun r s' h => ?_
  match r, h with
  | .ok (.ret u), ⟨v, H', os, bare, un, hok', rv, d', x, μ', _, _, rx, ex⟩ =>
    subst ex
    cases rx
    obtain rfl : u = Value.bool true := rv
    refine ⟨rfl, OldK.of_keep fun b o e => ?_, os, bare⟩
    rcases only b with z | ⟨ob', ys, z⟩
    · exact un.keep b o e z (none_in b) (by simp)
    · obtain ⟨e1, _⟩ := hok b _ z
      obtain ⟨e2, _⟩ := hok' b _ (un.frzs b ob' _ z)
      rw [e] at e1; cases e1
      exact e2
  | .ok .next, h => exact h.elim
  | .ok .brk, h => exact h.elim
  | .ok .cont, h => exact h.elim
  | .error _, h => exact h.elim
def lawS (n : Nat) : PSp := fun xs μ0 Q => μ0 = [] ∧ ∃ ns : List Int, xs = [.kl (ns.map PV.int)] ∧ ns.length ≤ n ∧ ∀ μ, Q (.bl true) μ
theorem walk_law {l : PySem.W.OpenLaw} {n k : Nat} {q : Program} {loose : List Str} {XP : (Str → Option Value) → Heap → Prop} {YP : World → Heap → Prop} {d : DefRec} {K : Params → PySem.W.Frag} {x : Str}
    (hn : l.most = some n) (small : n ≤ sizeLine) (nodef : d.params.defaults = []) (room : Room k callerA) (hY : ∀ (w : World) (h : Heap), YP w h → (K w.params).In h)
    (F : ∀ (w : World) (mg : Str → Option Value) (fa : Addr) (h : Heap), (K w.params).In h → h.Ns mainGlobals mg → mg d.name = some (.ref fa) →
      ∃ fd : FuncData, (∀ (s : Shared) (u : Value), BindsTo s fd ⟨[u], []⟩ [(x, u)]) ∧ ∀ base : Heap, (K w.params).In base → base.Ns mainGlobals mg → FnG l.prog w (K w.params) mg base k fa fd [x] (lawS n)) :
    PySem.W.WalkO q loose XP YP l.row.toRowW d [] (fun f vs => PySem.call f vs) := by
  refine Att.attach_call hn nodef fun w s₀ s₁ mg mb fa o pm cd doc a us ns G Y ho hd hcd hmg hobj hints hlen hg => ?_
  obtain ⟨fd, hb, hF⟩ := F w mg fa _ (hY w _ Y) G.T.g hmg
  exact law_go (hY w _ Y) G.T.g G.T.b G.T.builtins G.T.nolimit hg hobj hints (Nat.le_trans hlen small) room hF hb ⟨rfl, ns, rfl, hlen, fun _ => rfl⟩
end Fx
namespace Fx
open PySem PySem.Spec PyProof.Rows L2 RZ
theorem tup_mul_one (l : Addr) (items : Array Value) (n : Nat) (dd : Option Addr) (sl : Array (Option Value)) (u : Tok) :
    Meets (Builtin.«tuple.__mul__» ⟨[.ref l, .int 1 u], []⟩) (fun _ R s => s.heap.get? l = some { cls := .type "tuple", dict := dd, data := .seq items n, slots := sl } ∧ R (.ok (.ret (Value.ref l))) s) :=
  .of_wp fun prog w A R s h => by
    obtain ⟨hp, g, d, tk, os⟩ := s
    obtain ⟨hl, h⟩ := h
    have ix := AutoSeq1.idx_int
    wp_walk using wpAny_loadPart' hl
    repeat (first
      | (refine wpAny_ite_false (by decide) ?_; wp_walk using wpAny_loadPart' hl)
      | (refine wpAny_ite_true (by simp) ?_; wp_walk using wpAny_loadPart' hl))
    exact ⟨_, rfl, h⟩
theorem tup_mul_none (l : Addr) (items : Array Value) (n : Nat) (dd : Option Addr) (sl : Array (Option Value)) (x : Int) (u : Tok) (h0 : (decide (x < -(2 ^ 63)) || decide (x ≥ 2 ^ 63)) = false) (h1 : (items.isEmpty || x == 1) = false) (h2 : (decide (x ≤ 0) || items.isEmpty) = true) :
    Meets (Builtin.«tuple.__mul__» ⟨[.ref l, .int x u], []⟩) (fun _ R s => s.heap.get? l = some { cls := .type "tuple", dict := dd, data := .seq items n, slots := sl } ∧
      R (.ok (.ret (Value.ref s.heap.objs.size))) { s with heap := s.heap.push { cls := Value.type "tuple", data := Data.seq #[] }, toks := s.toks }) :=
  .of_wp fun prog w A R s h => by
    obtain ⟨hp, g, d, tk, os⟩ := s
    obtain ⟨hl, h⟩ := h
    have ix := AutoSeq1.idx_int
    wp_walk using wpAny_loadPart' hl
    repeat (first
      | (refine wpAny_ite_false (decide_eq_false (by rw [h0]; exact Bool.false_ne_true)) ?_; wp_walk using wpAny_loadPart' hl)
      | (refine wpAny_ite_false (decide_eq_false (by rw [h1]; exact Bool.false_ne_true)) ?_; wp_walk using wpAny_loadPart' hl)
      | (refine wpAny_ite_true (decide_eq_true h2) ?_; wp_walk using wpAny_loadPart' hl))
    exact ⟨_, rfl, h⟩
def rRepX (K : PySem.W.Frag) : R2 := fun x y H Q => ∃ l k xs, x = .ref l ∧ y = .int k ∧ SqT K H l xs ∧ xs ≠ [] ∧ -1000 ≤ k ∧ k ≤ 1000 ∧ xs.length ≤ 1000 ∧ (k = 1 → Q (.ref l) H) ∧ (k ≠ 1 → ∀ p, H p = none → Q (.ref p) (upd H p (.tup (List.replicate k.toNat xs).flatten)))
theorem op_repX {X : Cx} : OpR X (binaryOp .Mult) (rRepX X.K) := by
  intro pins s σ H x y v u Q I rx ry h
  obtain ⟨l, k, xs, rfl, rfl, hT, hne, hk0, hk1, hz, q1, q⟩ := h
  by_cases h2 : 2 ≤ k
  · exact op_repT pins s σ H _ _ v u Q I rx ry ⟨l, k, xs, rfl, rfl, hT, hne, h2, hk1, hz, q (by omega)⟩
  cases rx
  obtain ⟨t, rfl⟩ := ry
  obtain ⟨its, r, ⟨⟨cls, dd, data, sl⟩, ho, hc, n, hd⟩, hs⟩ := I.tuple hT
  simp only at hc hd
  subst hc hd
  have hn : its ≠ [] := fun e => hne (by
    have := r.length
    rw [e] at this
    exact List.eq_nil_of_length_eq_zero this)
  have hi : its.toArray.isEmpty = false := by
    cases its with
    | nil => exact absurd rfl hn
    | cons a b => rfl
  by_cases h1 : k = 1
  · subst h1
    refine wpAny_binaryOp_repeat_ref (T := "tuple") (U := "int") (by decide) ⟨_, ho, rfl⟩ (fun s' => typeIs_int s' 1 t) noFill_tuple_mul F.fills_int_mul F.slot_int_rmul repeat_tuple F.slot_int_index.lookup
      (call_meets F.slot_int_rmul (typeIs_int s 1 t) F.entry_int_rmul (F.args_int_rmul_2 _ _) (int_rmul_tuple 1 t l its.toArray n dd sl)
        ⟨ho, rfl, ⟨_, ho, rfl⟩, call_meets F.slot_tuple_mul ⟨_, ho, rfl⟩ F.entry_tuple_mul (F.args_tuple_mul_2 _ _) (tup_mul_one l its.toArray n dd sl t) ⟨ho, ?_⟩⟩)
    exact ⟨.ref l, H, I, rfl, q1 rfl⟩
  · have c0 : (decide (k < -(2 ^ 63)) || decide (k ≥ 2 ^ 63)) = false := by
      rw [decide_eq_false (by omega), decide_eq_false (by omega)] <;> rfl
    have c1 : (its.toArray.isEmpty || k == 1) = false := by
      rw [hi, Bool.false_or]
      exact beq_eq_false_iff_ne.mpr h1
    have c2 : (decide (k ≤ 0) || its.toArray.isEmpty) = true := by
      rw [decide_eq_true (by omega)]; rfl
    refine wpAny_binaryOp_repeat_ref (T := "tuple") (U := "int") (by decide) ⟨_, ho, rfl⟩ (fun s' => typeIs_int s' k t) noFill_tuple_mul F.fills_int_mul F.slot_int_rmul repeat_tuple F.slot_int_index.lookup
      (call_meets F.slot_int_rmul (typeIs_int s k t) F.entry_int_rmul (F.args_int_rmul_2 _ _) (int_rmul_tuple k t l its.toArray n dd sl)
        ⟨ho, rfl, ⟨_, ho, rfl⟩, call_meets F.slot_tuple_mul ⟨_, ho, rfl⟩ F.entry_tuple_mul (F.args_tuple_mul_2 _ _) (tup_mul_none l its.toArray n dd sl k t c0 c1 c2) ⟨ho, ?_⟩⟩)
    have e0 : (List.replicate k.toNat xs).flatten = [] := by
      have : k.toNat = 0 := by omega
      rw [this]; rfl
    have q' := q h1 _ (I.hok.fresh (Nat.le_refl s.heap.objs.size))
    rw [e0] at q'
    refine ⟨.ref s.heap.objs.size, _, I.laid (t' := s.toks) (o := .tup []) (fun b ob q => Heap.get?_push_of_some _ q) (Nat.le_refl _) ?_, rfl, q'⟩
    exact ⟨Nat.zero_le _, [], .nil, IsTup.new _ _⟩
def rTimes (K : PySem.W.Frag) : R2 := fun x y H Q => rI MulOk (fun i j => .int (i * j)) x y H Q ∨ rRepX K x y H Q
theorem op_times {X : Cx} : OpR X (binaryOp .Mult) (rTimes X.K) := OpR.or op_mulX op_repX
def pTimes : MO2 := fun x y μ P => match x, y with
  | .int i, .int j => MulOk i j ∧ P (.int (i * j)) μ
  | .tup xs, .int k => (xs ≠ [] ∧ -1000 ≤ k ∧ k ≤ 1000 ∧ xs.length ≤ 1000) ∧ P (.tup (List.replicate k.toNat xs).flatten) μ
  | _, _ => False
section
variable {K : PySem.W.Frag} {d d' : Wd} {H H' : Hp} {a b : Addr} {vs us : List V} {xs ys : List PV} {μ : Store}
theorem RVs.rep (r : RVs K d H xs vs) : ∀ n : Nat, RVs K d H (List.replicate n xs).flatten (List.replicate n vs).flatten
  | 0 => .nil
  | n + 1 => by
    rw [List.replicate_succ, List.replicate_succ, List.flatten_cons, List.flatten_cons]
    exact r.append (RVs.rep r n)
instance : F2 K (rTimes K) pTimes := ⟨fun d H μ x y v u P Q w r1 r2 q k => by
  match x, y, r1, r2, q with
  | .int i, .int j, .int _, .int _, ⟨c, q⟩ => exact .inl ⟨i, j, rfl, rfl, c, k d H μ _ _ .refl w (.int _) q⟩
  | .tup xs, .int n, .tup (a := a) (vs := vs) h1 h2, .int _, ⟨⟨z1, z2, z3, z4⟩, q⟩ =>
    refine .inr ⟨a, n, vs, rfl, rfl, h1.sq, ?_, z2, z3, by rw [← h2.length]; exact z4, fun e => ?_, fun e p hp => ?_⟩
    · rintro rfl
      cases h2
      exact z1 rfl
    · subst e
      exact k d H μ _ _ .refl w (.tup h1 h2) (by simpa using q)
    · exact k d _ μ _ _ (Ext.lay w hp) (w.lay hp) (lay_tup w (h2.rep n.toNat) hp) q⟩
theorem op_modX {X : Cx} : OpR X (binaryOp .Mod) (rI (fun _ j => j ≠ 0) fun i j => .int (i.fmod j)) := op_modN
theorem psM {X : Cx} {st : Stmt} {wi : TI} {g : TG} {tt : TT} {te : TE} {vs : List Nat} {g' : TG} (h : PS X st (tAsg (tLc wi g tt te vs) g')) : PS X st (tAsg (tLcM wi g tt te vs) g') := h
theorem peLM {X : Cx} {e : Expr} {t : TA} (h : PE X e (tLst t)) : PE X e (tLstM t) := h
theorem peRM {X : Cx} {e : Expr} {K : PySem.W.Frag} {t : TE} (h : PE X e (tRevL K t)) : PE X e (tRevLM K t) := h
def names0 : List Str := ["abs", "len", "sum", "all", "any", "isinstance", "repr", "int", "tuple", "list", "bool", "str", "range", "zip", "enumerate", "max", "min", "sorted", "reversed", "set", "dict"]
def Blt (mg : Str → Option Value) : Prop := ∀ x ∈ names0, mg x = none
theorem Blt.mk {mg : Str → Option Value} (B : Blt mg) (x : Str) (h : x ∈ names0) : mg x = none := B x h
structure Own (K : PySem.W.Frag) (mg : Str → Option Value) (x : Str) (st : Stmt) : Prop where
  ex : ∃ f fd, Fun K x x st f fd ∧ mg x = some (.ref f)
structure Ok (P : Program) (w : World) (K : PySem.W.Frag) (mg : Str → Option Value) (base : Heap) (k : Nat) (x : Str) (st : Stmt) (ps : List Str) (S : PSp) : Prop where
  ex : ∃ f fd, Fun K x x st f fd ∧ mg x = some (.ref f) ∧ Binds K fd ps [] ∧ FnG P w K mg base k f fd ps S
theorem kbs_mk {x qual : Str} {st : Stmt} {f : Addr} {fd : FuncData} {ps ks : List Str} {n : Nat} {ix : List Nat} (F : Fun K x qual st f fd)
    (h : ∀ (kV doc pm : Value) (an : Option Addr) (cdv ct : Value) (us ws : List Value), us.length = n → ws.length = ks.length → bindArgs (PySem.W.fnOf x qual (defArgs st) (defBody st) (defScope st) .none kV doc pm an cdv ct) ⟨us, ks.zip ws⟩ = pure (ps.zip (perm ix (us ++ ws)))) : KBs fd ps ks n ix := by
  obtain ⟨oc, od, kV, doc, pm, an, cdv, ct, osl, rfl, lk, hcd⟩ := F.ex
  exact fun s us ws h1 h2 => .of_eq (h kV doc pm an cdv ct us ws h1 h2)
end
end Fx
namespace Fx
open PySem PySem.Spec PyProof.Rows L2 RZ
theorem fin_keep {μ : Store} {x : PV} {Q : PV → Store → Prop} {μ0 : Store} (h : Q x μ) : ∃ y μ', Gc μ0 x μ y μ' ∧ Q y μ' := ⟨x, μ, .keep, h⟩
theorem fin_drop {μ0 g : Store} {x : PV} {Q : PV → Store → Prop} (n : noRef x = true) (h : Q x μ0) : ∃ y μ', Gc μ0 x (μ0 ++ g) y μ' ∧ Q y μ' := ⟨x, μ0, .drop g rfl n, h⟩
theorem fin_froz {μ0 : Store} {xs : List PV} {Q : PV → Store → Prop} (n : noRefs xs = true) (h : Q (.lst xs) μ0) : ∃ y μ', Gc μ0 (.mr μ0.length) (μ0 ++ [.lst xs]) y μ' ∧ Q y μ' := ⟨.lst xs, μ0, .froz μ0.length [.lst xs] xs rfl rfl (by simp) (Nat.le_refl _) n, h⟩
section
variable {α β : Type}
theorem atI_zero {x : α} {xs : List α} : L2.atI (x :: xs) 0 = some x := atI_nat (j := 0) rfl
theorem atI_one {x y : α} {xs : List α} : L2.atI (x :: y :: xs) 1 = some y := atI_nat (j := 1) rfl
theorem atI_some {xs : List α} {i : Nat} {x : α} (h : xs[i]? = some x) : L2.atI xs (i : Int) = some x := atI_nat h
theorem atI_map {f : α → β} {xs : List α} {i : Nat} {x : α} (h : xs[i]? = some x) : L2.atI (xs.map f) (i : Int) = some (f x) := atI_nat (by rw [List.getElem?_map, h]; rfl)
end
section
variable {α : Type} {g : MG} {c : MT} {e : ME} {ρ0 : PEnv} {P : List PV → Store → Prop} {μ : Store}
theorem lc_map {enc out : α → PV} : ∀ {l : List α} {acc : List PV}, (∀ a ∈ l, ∀ k : PV → Store → Prop, k (out a) μ → g (enc a) ρ0 μ fun ρ1 μ1 => e ρ1 μ1 k) → P (acc ++ l.map out) μ → mLcL g mYes e ρ0 P (l.map enc) acc μ
  | [], acc, _, hP => by simpa [mLcL] using hP
  | a :: l, acc, h, hP => by
    show g (enc a) ρ0 μ fun ρ1 μ1 => e ρ1 μ1 fun y μ3 => mLcL g mYes e ρ0 P (l.map enc) (acc ++ [y]) μ3
    exact h a List.mem_cons_self _ (lc_map (fun b hb => h b (List.mem_cons_of_mem _ hb)) (by simpa using hP))
theorem lc_filter {enc out : α → PV} {p : α → Bool} : ∀ {l : List α} {acc : List PV}, (∀ a ∈ l, ∀ (k : PV → Store → Prop) (n : Store → Prop), (p a = true → k (out a) μ) → (p a = false → n μ) → g (enc a) ρ0 μ fun ρ1 μ1 => c ρ1 μ1 fun b μ2 => if b = true then e ρ1 μ2 k else n μ2) →
    P (acc ++ (l.filter p).map out) μ → mLcL g c e ρ0 P (l.map enc) acc μ
  | [], acc, _, hP => by simpa [mLcL] using hP
  | a :: l, acc, h, hP => by
    show g (enc a) ρ0 μ fun ρ1 μ1 => c ρ1 μ1 fun b μ2 => if b = true then e ρ1 μ2 (fun y μ3 => mLcL g c e ρ0 P (l.map enc) (acc ++ [y]) μ3) else mLcL g c e ρ0 P (l.map enc) acc μ2
    refine h a List.mem_cons_self _ _ (fun hp => ?_) fun hp => ?_
    · refine lc_filter (fun b hb => h b (List.mem_cons_of_mem _ hb)) ?_
      simpa [List.filter_cons, hp] using hP
    · refine lc_filter (fun b hb => h b (List.mem_cons_of_mem _ hb)) ?_
      simpa [List.filter_cons, hp] using hP
end
section
variable {α : Type} {g : MG} {b : MS} {P : MEnds}
theorem for_inv {enc : α → PV} (I : List α → PEnv → Store → Prop) : ∀ {l done : List α} {ρ : PEnv} {μ : Store}, I done ρ μ → (∀ pre a post ρ μ, done ++ l = pre ++ a :: post → I pre ρ μ → ∀ N : PEnv → Store → Prop, (∀ ρ μ, I (pre ++ [a]) ρ μ → N ρ μ) →
      g (enc a) ρ μ fun ρ1 μ1 => b { P with nx := N, ct := N, bk := P.nx } ρ1 μ1) → (∀ ρ μ, I (done ++ l) ρ μ → P.nx ρ μ) → mForL g b P (l.map enc) ρ μ
  | [], done, ρ, μ, h0, _, hP => hP ρ μ (by simpa using h0)
  | a :: l, done, ρ, μ, h0, hs, hP => by
    have e1 : done ++ a :: l = (done ++ [a]) ++ l := by simp
    exact hs done a l ρ μ rfl h0 (mForL g b P (l.map enc)) fun ρ μ h => for_inv I (done := done ++ [a]) h (fun pre x post ρ μ e2 => hs pre x post ρ μ (by rw [e1]; exact e2)) fun ρ μ h => hP ρ μ (by rw [e1]; exact h)
end
theorem zipP_map {α β : Type} (f : α → PV) (h : β → PV) : ∀ (xs : List α) (ys : List β), zipP (xs.map f) (ys.map h) = (xs.zip ys).map fun p => .tup [f p.1, h p.2]
  | [], _ => by simp [zipP]
  | _ :: _, [] => by simp [zipP]
  | x :: xs, y :: ys => by simp [zipP, zipP_map f h xs ys]
theorem rangeP_eq (n : Nat) : rangeP 0 n = (List.range n).map fun (i : Nat) => PV.int i := by
  unfold rangeP
  simp
end Fx
namespace Fx
open PySem PySem.Spec PyProof.Rows L2 RZ
theorem meets_num1 {u : Value} {ob : Obj} {C : Heap → Prop} (B : Begins u ob C) :
    Meets (Builtin.«enumerate.__new__» ⟨[.type "enumerate", u], []⟩) (fun _ Z st => C st.heap ∧ Z (.ok (.ret (.ref (st.heap.push ob).objs.size)))
      { st with heap := (st.heap.push ob).push { cls := .type "enumerate", data := .fields #[.none, .bool false, .ref st.heap.objs.size, rawInt 0, .none, .none] } }) :=
  .of_wp fun prog w A R st h => by
    obtain ⟨hp, gn, dr, tt, oo⟩ := st
    obtain ⟨h1, h⟩ := h
    have sb := sub_enumerate
    have go : ∀ {A' : Around} {E : Value → Shared → Prop} {Q : Value → Shared → Prop}, Q (.ref hp.objs.size) ⟨hp.push ob, gn, dr, tt, oo⟩ → wpAny (model prog w) A' (pyIter u) Q E ⟨hp, gn, dr, tt, oo⟩ := fun q => B.iter prog w _ _ _ _ h1 q
    wp_walk using go
    refine wpAny_stack_any fun stk => wpAny_pure ?_
    split
    · rename_i cc _ _ _ _ _
      cases (cc == Value.type "enumerate") <;> (wp_walk using go; exact ⟨_, rfl, h⟩)
    · wp_walk using go; exact ⟨_, rfl, h⟩
theorem num_begins {prog : Program} {w : World} {A : Around} {E : Value → Shared → Prop} {s : Shared} {u : Value} {ob : Obj} {C : Heap → Prop} {Q : Value → Shared → Prop} (B : Begins u ob C) (h1 : C s.heap)
    (h : ∀ h', IsEnum h' (s.heap.objs.size + 1) s.heap.objs.size 0 .none → h'.get? s.heap.objs.size = some ob → (∀ b o, s.heap.get? b = some o → h'.get? b = some o) → Q (.ref (s.heap.objs.size + 1)) { s with heap := h' }) :
    wpAny (model prog w) A (call (.type "enumerate") [u]) Q E s := by
  refine callType_new F.called_enumerate (by decide) (F.typeCall_enumerate_1 _) (F.newCall_enumerate_1 _) (fun obj => F.args_object_init_2 obj _) F.entry_enumerate_new (meets_num1 B) ⟨h1, ?_⟩
  have z1 : (s.heap.push ob).objs.size = s.heap.objs.size + 1 := Heap.size_push ..
  show _ ∧ _
  rw [z1]
  have e1 : IsEnum ((s.heap.push ob).push { cls := .type "enumerate", data := .fields #[.none, .bool false, .ref s.heap.objs.size, rawInt 0, .none, .none] }) (s.heap.objs.size + 1) s.heap.objs.size 0 .none := by
    have q := Heap.get?_push_size (s.heap.push ob) (o := { cls := .type "enumerate", data := .fields #[.none, .bool false, .ref s.heap.objs.size, rawInt 0, .none, .none] }) rfl
    rw [z1] at q; exact q
  exact ⟨⟨_, e1, rfl⟩, h _ e1 (Heap.get?_push_of_some _ (Heap.get?_push_size _ B.free)) fun b o x => Heap.get?_push_of_some _ (Heap.get?_push_of_some _ x)⟩
def IteT (K : PySem.W.Frag) (a : Addr) : It where
  go i H := ∃ (xs : List V) (x : V), SqT K H a xs ∧ xs[i]? = some x
  yld i H v H' := ∃ T x, v = .ref T ∧ H T = none ∧ H' = upd H T (.tup [.int (i : Nat), x]) ∧ ∀ xs, SqT K H a xs → xs[i]? = some x
  stop i H := ∃ xs : List V, SqT K H a xs ∧ xs.length ≤ i
theorem turn_enumT {P : Program} {w : World} {K : PySem.W.Frag} {es : List Expr} {k1 : Nat} {tp : Pos} (a e it : Addr) :
    Turn P w K (.Tuple es k1 tp) (IteT K a) [e, it] e (fun i h => (∃ old, IsEnum h e it ((i : Nat) : Int) old) ∧ h.IsTupleIter it a i ∧ e ≠ it ∧ a ≠ it ∧ e ≠ a) where
  mem := by simp
  obj := fun i h st b hb => by
    obtain ⟨⟨old, he⟩, ⟨o, ho, hc, hd⟩, _⟩ := st
    rcases (show b = e ∨ b = it by simpa using hb) with z | z
    · exact z ▸ ⟨_, he, fun v q => nomatch q⟩
    · exact z ▸ ⟨o, ho, fun v q => by rw [hd] at q; cases q⟩
  keep := fun i h h' st k => by
    obtain ⟨⟨old, he⟩, hi, r⟩ := st
    exact ⟨⟨old, k e (by simp) _ he⟩, hi.at fun o q => k it (by simp) o q, r⟩
  item := by
    intro X hP hw hK hc i pins s σ H E I hf st hg
    subst hP hw hK
    obtain ⟨⟨old, he⟩, hit, hne, hai, hea⟩ := st
    obtain ⟨xs, x, hq, hx⟩ := hg
    obtain ⟨its, rv, p, hz⟩ := I.tuple hq
    obtain ⟨u, hu, ru⟩ := rv.get hx
    have el := Heap.lt_size he
    have il : it < s.heap.objs.size := by obtain ⟨_, q, _⟩ := hit; exact Heap.lt_size q
    have isz : i < its.toArray.size := by
      have := (List.getElem?_eq_some_iff.mp hu).1
      simpa using this
    refine wpAny_pyNext_enum_itemD (Draws.tuple (A := X.A.in1) (I.ok.hd hc) it a hai its.toArray) he ⟨hit, p⟩ isz hne (by simp [hne, hea]) fun u' h' tk hu' ho st' hT hsz hk => ?_
    have hu'' : u' = u := by
      have q : its.toArray[i]? = some u := by simpa using hu
      have q' : its.toArray[i]? = some u' := hu'
      rw [q] at q'; cases q'; rfl
    subst hu''
    refine ⟨_, rfl, wpAny_letOwnedTupleGo_enum (s := { s with heap := h', toks := tk + 1 }) ho fun h2 he2 sb => ?_⟩
    have hT2 := (sb.2 _ (Nat.ne_of_gt el)).trans hT
    have new : ObjOk X.prog X.w (upd H s.heap.objs.size (.tup [.int (i : Nat), x])) h2 s.heap.objs.size (.tup [.int (i : Nat), x]) :=
      ⟨by show 2 ≤ sizeLine; decide, [.int i tk, u'], .cons ⟨_, rfl⟩ (.cons ru .nil), ⟨_, hT2, rfl, _, rfl⟩⟩
    have I1 : Inv X pins σ (upd H s.heap.objs.size (.tup [.int (i : Nat), x])) { s with heap := h2, toks := tk + 1 } := by
      refine I.turnedNew (ch := [e, it]) (fun b ob hb q => ?_) hf (Nat.le_refl _) new
      have nb : b ≠ e ∧ b ≠ it := by simpa using hb
      exact (sb.2 b nb.1).trans (hk b ob nb.1 nb.2 q)
    refine ⟨.ref s.heap.objs.size, _, I1, rfl, ⟨_, x, rfl, I.hok.fresh (Nat.le_refl _), rfl, fun ys hy => by rw [I.tuple_inj hy hq]; exact hx⟩, ⟨⟨u', ?_⟩, st'.1.at fun o q => (sb.2 it (Ne.symm hne)).trans q, hne, hai, hea⟩, fun b hb => ?_⟩
    · rw [show ((i + 1 : Nat) : Int) = (i : Int) + 1 by omega]
      exact he2
    · have bl : b < s.heap.objs.size := by
        rcases (show b = e ∨ b = it by simpa using hb) with z | z
        · exact z ▸ el
        · exact z ▸ il
      rw [upd_ne (Nat.ne_of_lt bl)]
      exact (hf b hb).1
  done := by
    intro X hP hw hK hc i pins s σ H E I hf st hg
    subst hP hw hK
    obtain ⟨⟨old, he⟩, hit, hne, hai, hea⟩ := st
    obtain ⟨xs, hq, hx⟩ := hg
    obtain ⟨its, rv, p, hz⟩ := I.tuple hq
    obtain ⟨f0, f1, f2, f3, f4, f5⟩ := hf it (by simp)
    have hl := rv.length
    have hT : s.TypeIs (.ref e) "enumerate" := ⟨_, he, rfl⟩
    unfold pyNext
    refine wpAny_bind (wpAny_attempt (wpAny_callSpecial?_slot (name := Str.ofString "__next__") hT F.slot_enumerate_next (wpAny_call_entry F.slot_enumerate_next hT F.entry_enumerate_next ?_ (F.args_enumerate_next_1 _))))
    show wpAny _ _ (field (.ref e) 2 >>= _) _ _ _
    refine wpAny_bind (wpAny_field he rfl (x := .ref it) rfl ?_)
    refine wpAny_bind (wpAny_nextOf_tuple_end (I.ok.hd hc) hit p (by simp; omega) fun h' x he' hx' => ?_)
    obtain ⟨o, ho, hc⟩ := hx'
    refine wpAny_bind (wpAny_isInstance (T := "StopIteration") (b := true) ⟨o, ho, hc⟩ isSubtype_stop ?_)
    exact wpAny_pure ⟨rfl, I.turned (t' := s.toks) (fun b o hb q => he' b o hb q) f0 f1 f3 f4 f5⟩
  self := fun A i s Q E st h => by
    obtain ⟨⟨_, he⟩, _⟩ := st
    exact wpAny_pyIter_enum he h
def iEnumS (K : PySem.W.Frag) (ta : TA) : TI := fun σ H R => ta σ H fun vs H1 => ∃ a, vs = [.ref a] ∧ (((∃ xs, SqL K H1 a xs) ∧ R (Ite K a) H1) ∨ ((∃ xs, SqT K H1 a xs) ∧ R (IteT K a) H1))
theorem pi_enumS {X : Cx} {e1 : Expr} {ta : TA} {p pos tpos : Pos} {es : List Expr} {k1 : Nat} (hg : Gl X "enumerate") (hm : X.mg "enumerate" = none) (ha : PA X [e1] ta) (hs : starEach [e1] X.env = [(false, eval e1 X.env)] := by rfl) :
    PI X (.Tuple es k1 tpos) (.Call (.Name "enumerate" p) [e1] [] pos) (iEnumS X.K ta) := by
  refine ⟨fun pins s σ H R I h => ?_⟩
  refine wpAny_Call_Name_kw (ld_blt I hg hm boot_enumerate (callWith_type1 (thn (ha.run pos pins s σ H _ I h) fun us s1 ⟨vs, H1, I1, r1, q1⟩ => ?_) hs rfl))
  obtain ⟨a, ex, q⟩ := q1
  subst ex
  cases r1 with
  | cons r rr =>
    cases rr
    cases r
    have fr : ∀ b ∈ [s1.heap.objs.size + 1, s1.heap.objs.size], FpOk X pins H1 b := fun b hb => by
      have le : s1.heap.objs.size ≤ b := by
        rcases (show b = s1.heap.objs.size + 1 ∨ b = s1.heap.objs.size by simpa using hb) with z | z
        · rw [z]; exact Nat.le_add_right _ _
        · rw [z]; exact Nat.le_refl _
      exact I1.fpOk le (I1.hok.fresh le)
    rcases q with ⟨⟨xs, hq⟩, q⟩ | ⟨⟨xs, hq⟩, q⟩
    · obtain ⟨its, rv, p', hz⟩ := I1.list hq
      refine num_begins (begins_list a its.toArray) p'.isList fun h' he hit hk => wpAny_pyIter_enum he ?_
      exact ⟨s1.heap.objs.size + 1, [s1.heap.objs.size + 1, s1.heap.objs.size], _, _, H1, rfl, I1.kept (t' := s1.toks) hk, turn_enum a (s1.heap.objs.size + 1) s1.heap.objs.size, ⟨⟨.none, he⟩, ⟨_, hit, rfl, rfl⟩, Nat.succ_ne_self _⟩, fr, q⟩
    · obtain ⟨its, rv, p', hz⟩ := I1.tuple hq
      have pt : s1.heap.IsTuple a its.toArray := p'
      have al : a < s1.heap.objs.size := by obtain ⟨_, q, _⟩ := pt; exact Heap.lt_size q
      refine num_begins (begins_tuple a its.toArray) pt fun h' he hit hk => wpAny_pyIter_enum he ?_
      exact ⟨s1.heap.objs.size + 1, [s1.heap.objs.size + 1, s1.heap.objs.size], _, _, H1, rfl, I1.kept (t' := s1.toks) hk, turn_enumT a (s1.heap.objs.size + 1) s1.heap.objs.size, ⟨⟨.none, he⟩, ⟨_, hit, rfl, rfl⟩, Nat.succ_ne_self _, Nat.ne_of_lt al, Nat.ne_of_gt (Nat.lt_succ_of_lt al)⟩, fr, q⟩
def enumP : Nat → List PV → List PV
  | _, [] => []
  | i, x :: xs => .tup [.int i, x] :: enumP (i + 1) xs
theorem enumP_get : ∀ {xs : List PV} {j i : Nat} {z : PV}, (enumP j xs)[i]? = some z → ∃ x, xs[i]? = some x ∧ z = .tup [.int ((j + i : Nat) : Int), x]
  | [], _, _, _, h => by simp [enumP] at h
  | x :: xs, j, 0, z, h => by
    simp [enumP] at h
    exact ⟨x, rfl, h.symm⟩
  | x :: xs, j, i + 1, z, h => by
    simp only [enumP, List.getElem?_cons_succ] at h
    obtain ⟨y, h1, h2⟩ := enumP_get h
    exact ⟨y, by simpa using h1, by rw [h2]; congr 3; congr 1; omega⟩
theorem enumP_length : ∀ (xs : List PV) (j : Nat), (enumP j xs).length = xs.length
  | [], _ => rfl
  | x :: xs, j => by simp [enumP, enumP_length xs]
section
variable {K : PySem.W.Frag} {d d' : Wd} {H H' : Hp} {a b : Addr} {vs us : List V} {xs ys : List PV} {μ : Store}
theorem it_enumT (h : TupAt K d H a vs) (r : RVs K d H xs vs) : ItOk (K := K) d H (IteT K a) (enumP 0 xs) := fun d1 d2 H2 μ2 bb e w => by
  have h2 : TupAt K d2 H2 a vs := e.tupAt (h.imp (fun z => ⟨z.1, by rw [bb.1]; exact z.2⟩) id)
  have r2 : RVs K d2 H2 xs vs := (r.bars bb).mono e
  refine ⟨fun i x hx => ?_, fun i hi => ⟨vs, h2.sq, by rw [enumP_length] at hi; rw [← r2.length]; exact hi⟩⟩
  obtain ⟨y, hy, rfl⟩ := enumP_get hx
  obtain ⟨v, hv, rv⟩ := r2.get hy
  refine ⟨⟨vs, v, h2.sq, hv⟩, fun u H3 hyl => ?_⟩
  obtain ⟨T, v', rfl, hT, rfl, f⟩ := hyl
  have e1 := f vs h2.sq
  rw [hv] at e1; cases e1
  rw [Nat.zero_add]
  exact tup_pair w hT (.int _) rv
theorem it_enumK (h : KlAt K d H a vs) (r : RVs K d H xs vs) : ItOk (K := K) d H (Ite K a) (enumP 0 xs) := fun d1 d2 H2 μ2 bb e w => by
  have h2 : KlAt K d2 H2 a vs := e.klAt (h.imp (fun z => ⟨z.1, by rw [bb.1]; exact z.2.1, fun q => (bb.2 _ q).elim z.2.2 (Rd.ne z.1)⟩) id)
  have r2 : RVs K d2 H2 xs vs := (r.bars bb).mono e
  refine ⟨fun i x hx => ?_, fun i hi => ⟨vs, h2.sq, by rw [enumP_length] at hi; rw [← r2.length]; exact hi⟩⟩
  obtain ⟨y, hy, rfl⟩ := enumP_get hx
  obtain ⟨v, hv, rv⟩ := r2.get hy
  refine ⟨⟨vs, v, h2.sq, hv⟩, fun u H3 hyl => ?_⟩
  obtain ⟨T, v', rfl, hT, rfl, f⟩ := hyl
  have e1 := f vs h2.sq
  rw [hv] at e1; cases e1
  rw [Nat.zero_add]
  exact tup_pair w hT (.int _) rv
def mEnum (m : MA) : MI := fun ρ μ P => m ρ μ fun xs μ1 => match xs with | [.tup ys] => P (enumP 0 ys) μ1 | [.lst ys] => P (enumP 0 ys) μ1 | [.kl ys] => P (enumP 0 ys) μ1 | _ => False
instance {t m} [h : FA K t m] : FI K (iEnumS K t) (mEnum m) := ⟨fun d σ H ρ μ P R w e q k => by
  refine h.run d σ H ρ μ _ _ w e q fun d1 H1 μ1 xs vs e1 w1 r1 q1 => ?_
  match xs, r1, q1 with
  | [.tup ys], .cons (.tup ha hr) .nil, q1 => exact ⟨_, rfl, .inr ⟨⟨_, ha.sq⟩, k d1 H1 μ1 _ _ e1 w1 (it_enumT ha hr) q1⟩⟩
  | [.lst ys], .cons (.lst ha hr) .nil, q1 => exact ⟨_, rfl, .inl ⟨⟨_, ha.sq⟩, k d1 H1 μ1 _ _ e1 w1 (it_enumK (.inl ⟨.inl ha.1, ha.2⟩) hr) q1⟩⟩
  | [.kl ys], .cons (.kl ha hr) .nil, q1 => exact ⟨_, rfl, .inl ⟨⟨_, ha.sq⟩, k d1 H1 μ1 _ _ e1 w1 (it_enumK ha hr) q1⟩⟩⟩
def ItW (K : PySem.W.Frag) (J : It) (xs : List PV) (Iv : Wd → Hp → Prop) : Prop :=
  (∀ d H d2 H2, Iv d H → Ext d H d2 H2 → Iv d2 H2) ∧ (∀ d H D l l', Iv d H → D ∈ d.ban → H D = some (.lst l) → Iv d (upd H D (.lst l'))) ∧
  ∀ d H μ, Iv d H → WOk K d H μ → (∀ (i : Nat) x, xs[i]? = some x → J.go i H ∧ ∀ v H', J.yld i H v H' → Ext d H d H' ∧ WOk K d H' μ ∧ RV K d H' x v) ∧ (∀ i, xs.length ≤ i → J.stop i H)
class FW (K : PySem.W.Frag) (t : TI) (m : outParam MI) : Prop where
  run : ∀ (d : Wd) (σ : L2.St) (H : Hp) (ρ : PEnv) (μ : Store) (P : List PV → Store → Prop) (R : It → Hp → Prop), WOk K d H μ → REnv K d H ρ σ → m ρ μ P →
    (∀ d' H' μ' J xs Iv, Ext d H d' H' → WOk K d' H' μ' → ItW K J xs Iv → Iv d' H' → P xs μ' → R J H') → t σ H R
theorem TupAt.made {D : Addr} {l l' : List V} (h : TupAt K d H a vs) (hD : H D = some (.lst l)) : TupAt K d (upd H D (.lst l')) a vs := by
  rcases h with ⟨r, n⟩ | h
  · have ne : a ≠ D := by
      rintro rfl
      rcases r with r | ⟨o, r⟩ <;> rw [hD] at r <;> cases r
    refine .inl ⟨?_, n⟩
    rcases r with r | ⟨o, r⟩
    · exact .inl (by rw [upd_ne ne]; exact r)
    · exact .inr ⟨o, by rw [upd_ne ne]; exact r⟩
  · exact .inr h
theorem KlAt.made {D : Addr} {l l' : List V} (h : KlAt K d H a vs) (hb : D ∈ d.ban) : KlAt K d (upd H D (.lst l')) a vs := by
  rcases h with ⟨r, n, b⟩ | h
  · have ne : a ≠ D := by
      rintro rfl
      exact b hb
    refine .inl ⟨?_, n, b⟩
    rcases r with r | ⟨o, r⟩
    · exact .inl (by rw [upd_ne ne]; exact r)
    · exact .inr ⟨o, by rw [upd_ne ne]; exact r⟩
  · exact .inr h
theorem itw_tup : ItW K (Itt K a) xs fun d H => ∃ vs, TupAt K d H a vs ∧ RVs K d H xs vs := by
  refine ⟨fun d H d2 H2 ⟨vs, h, r⟩ e => ⟨vs, e.tupAt h, r.mono e⟩, fun d H D l l' ⟨vs, h, r⟩ hb hD => ⟨vs, h.made hD, r.made hb (no_tup hD)⟩, fun d H μ ⟨vs, h, r⟩ w => ?_⟩
  exact it_tup h r d d H μ ⟨rfl, fun _ h => .inl h⟩ .refl w
theorem itw_kl : ItW K (Itl K a) xs fun d H => ∃ vs, KlAt K d H a vs ∧ RVs K d H xs vs := by
  refine ⟨fun d H d2 H2 ⟨vs, h, r⟩ e => ⟨vs, e.klAt h, r.mono e⟩, fun d H D l l' ⟨vs, h, r⟩ hb hD => ⟨vs, h.made hb (l := l), r.made hb (no_tup hD)⟩, fun d H μ ⟨vs, h, r⟩ w => ?_⟩
  exact it_kl h r d d H μ ⟨rfl, fun _ h => .inl h⟩ .refl w
instance {t m} [h : FE K t m] : FW K (iSeq K t) (mSeqI m) := ⟨fun d σ H ρ μ P R w e q k => by
  refine h.run d σ H ρ μ _ _ w e q fun d1 H1 μ1 x v e1 w1 r1 q1 => ?_
  cases x <;> try exact q1.elim
  · cases r1 with
    | tup ha hr => exact ⟨_, rfl, .inr ⟨⟨_, ha.sq⟩, k d1 H1 μ1 _ _ _ e1 w1 itw_tup ⟨_, ha, hr⟩ q1⟩⟩
  · cases r1 with
    | lst ha hr => exact ⟨_, rfl, .inl ⟨⟨_, ha.sq⟩, k d1 H1 μ1 _ _ _ e1 w1 itw_kl ⟨_, .inl ⟨.inl ha.1, ha.2⟩, hr⟩ q1⟩⟩
  · cases r1 with
    | kl ha hr => exact ⟨_, rfl, .inl ⟨⟨_, ha.sq⟩, k d1 H1 μ1 _ _ _ e1 w1 itw_kl ⟨_, ha, hr⟩ q1⟩⟩⟩
instance {t m} [h : FA K t m] : FW K (iRng1 t) (mRng1 m) := ⟨fun d σ H ρ μ P R w e q k => by
  refine h.run d σ H ρ μ _ _ w e q fun d1 H1 μ1 xs vs e1 w1 r1 q1 => ?_
  match xs, r1, q1 with
  | [.int j], .cons (.int _) .nil, ⟨z, q1⟩ =>
    exact ⟨j, rfl, by omega, by omega, k d1 H1 μ1 _ _ (fun _ _ => True) e1 w1 ⟨fun _ _ _ _ _ _ => trivial, fun _ _ _ _ _ _ _ _ => trivial, fun d H μ _ w => it_rng 0 j.toNat d d H μ ⟨rfl, fun _ h => .inl h⟩ .refl w⟩ trivial q1⟩⟩
def mLcO (g : MG) (c : MT) (i1 : MI) (g1 : MG) (c1 : MT) (e : ME) (vs1 : List Nat) (ρ0 : PEnv) (P : List PV → Store → Prop) : List PV → List PV → Store → Prop
  | [], acc, μ => P acc μ
  | x :: xs, acc, μ => g x ρ0 μ fun ρ1 μ1 => c ρ1 μ1 fun b μ2 => if b = true then i1 ρ1 μ2 fun ys μ3 => (acc.length + ys.length ≤ lim ∧ mLcL g1 c1 e (wipeP ρ1 vs1) (fun acc' μ4 => mLcO g c i1 g1 c1 e vs1 ρ0 P xs acc' μ4) ys acc μ3) else mLcO g c i1 g1 c1 e vs1 ρ0 P xs acc μ2
def mLc2 (mi : MI) (g : MG) (c : MT) (i1 : MI) (g1 : MG) (c1 : MT) (e : ME) (s vs s1 vs1 : List Nat) : ME := fun ρ μ P => ((∀ i ∈ s, i ∈ vs) ∧ ∀ i ∈ s1, i ∈ vs1) ∧ mi ρ μ fun xs μ1 => mLcO g c i1 g1 c1 e vs1 (wipeP ρ vs) (fun acc μ2 => P (.lst acc) μ2) xs [] μ1
instance {wi mi g mg s tt mt wi1 mi1 g1 mg1 s1 tt1 mt1 te me vs vs1} [hi : FI K wi mi] [hg : FG K g mg s] [hc : FT K tt mt] [hi1 : FW K wi1 mi1] [hg1 : FG K g1 mg1 s1] [hc1 : FT K tt1 mt1] [he : FE K te me] :
    FE K (tLc2 wi g tt wi1 g1 tt1 te vs vs1) (mLc2 mi mg mt mi1 mg1 mt1 me s vs s1 vs1) := ⟨fun d σ H ρ μ P Q w e q k => by
  obtain ⟨⟨hs, hs1⟩, q⟩ := q
  refine hi.run d σ H ρ μ _ _ w e q fun d1 H1 μ1 J xs e1 w1 it q1 => ?_
  intro D hD
  have bD : Bars d1 ⟨d1.am, D :: d1.ban⟩ H1 := ⟨rfl, fun x q => (List.mem_cons.mp q).elim (fun z => .inr (by rw [z]; exact hD)) .inl⟩
  have envB : REnv K ⟨d1.am, D :: d1.ban⟩ H1 (wipeP ρ vs) (wipe σ vs) := ((e.mono e1).bars bD).wipe vs
  have lay0 : Ext ⟨d1.am, D :: d1.ban⟩ H1 ⟨d1.am, D :: d1.ban⟩ (upd H1 D (.lst [])) := ⟨⟨[], by simp, fun p hp => by simp at hp⟩, rfl, fun b u e _ => by rw [upd_ne (ne_of_none e hD)]; exact e⟩
  refine ⟨fun i m H' => ∃ dB μ' acc avs, Ext ⟨d1.am, D :: d1.ban⟩ H1 dB H' ∧ WOk K dB H' μ' ∧ H' D = some (.lst avs) ∧ RVs K dB H' acc avs ∧ i + m = xs.length ∧ mLcO mg mt mi1 mg1 mt1 me vs1 (wipeP ρ vs) (fun acc μ2 => P (.lst acc) μ2) (xs.drop i) acc μ',
    ⟨xs.length, _, μ1, [], [], lay0, w1.barD hD, upd_same, .nil, by omega, by simpa using q1⟩, fun i m H' hW => ?_⟩
  obtain ⟨dB, μ', acc, avs, eB, wB, hDv, rA, em, q2⟩ := hW
  have hDban : D ∈ dB.ban := by rw [eB.ban]; exact List.mem_cons_self
  obtain ⟨itg, its⟩ := it _ dB H' μ' bD eB wB
  cases hx : xs[i]? with
  | none =>
    have hle : xs.length ≤ i := List.getElem?_eq_none_iff.mp hx
    rw [List.drop_of_length_le hle] at q2
    refine .inl ⟨its i hle, ?_⟩
    obtain ⟨x1, x2, x3⟩ := lc_frozen e1 hD (w1.notban hD) eB wB hDv rA
    exact k _ H' μ' _ _ x1 x2 x3 q2
  | some x =>
    have hlt : i < xs.length := (List.getElem?_eq_some_iff.mp hx).1
    rw [drop_cons hx] at q2
    obtain ⟨go, yl⟩ := itg i x hx
    refine .inr ⟨go, fun H3 => ∃ dB μ' acc avs, Ext ⟨d1.am, D :: d1.ban⟩ H1 dB H3 ∧ WOk K dB H3 μ' ∧ H3 D = some (.lst avs) ∧ RVs K dB H3 acc avs ∧ mLcO mg mt mi1 mg1 mt1 me vs1 (wipeP ρ vs) (fun acc μ2 => P (.lst acc) μ2) (xs.drop (i + 1)) acc μ', fun H3 hN => ?_, fun v H3 hy => ?_⟩
    · obtain ⟨a1, a2, a3, a4, a5, a6, a7, a8, a10⟩ := hN
      exact ⟨m - 1, by omega, a1, a2, a3, a4, a5, a6, a7, a8, by omega, a10⟩
    · obtain ⟨ey, wy, ry⟩ := yl v H3 hy
      refine hg.run dB (wipe σ vs) H3 (wipeP ρ vs) μ' x v _ _ wy (envB.mono (eB.trans ey)) ry q2 fun d4 σ4 H4 ρ4 μ4 e4 w4 ee4 hl4 hs4 q4 => ⟨wipe_same hl4 hs4 hs, ?_⟩
      refine hc.run d4 σ4 H4 ρ4 μ4 _ _ w4 ee4 q4 fun d5 H5 μ5 b e5 w5 q5 => ?_
      have nD : D ∉ dB.am := (wB.ban D hDban).2
      have E5 : Ext dB H' d5 H5 := (ey.trans e4).trans e5
      cases b
      · exact ⟨d5, μ5, acc, avs, eB.trans E5, w5, E5.keep _ _ hDv nD, rA.mono E5, q5⟩
      · refine hi1.run d5 σ4 H5 ρ4 μ5 _ _ w5 (ee4.mono e5) q5 fun d6 H6 μ6 J1 ys Iv e6 w6 ⟨iv1, iv2, iv3⟩ iv ⟨hyl, q6⟩ => ?_
        have E6 : Ext dB H' d6 H6 := E5.trans e6
        have b6 : D ∈ d6.ban := by rw [E6.ban]; exact hDban
        have hD6 : H6 D = some (.lst avs) := E6.keep _ _ hDv nD
        refine ⟨fun j n H7 => ∃ dC μ' acc' bvs, Ext ⟨d1.am, D :: d1.ban⟩ H1 dC H7 ∧ WOk K dC H7 μ' ∧ H7 D = some (.lst bvs) ∧ RVs K dC H7 acc' bvs ∧ REnv K dC H7 (wipeP ρ4 vs1) (wipe σ4 vs1) ∧ Iv dC H7 ∧ j + n = ys.length ∧ acc'.length ≤ acc.length + j ∧
          mLcL mg1 mt1 me (wipeP ρ4 vs1) (fun acc' μ4 => mLcO mg mt mi1 mg1 mt1 me vs1 (wipeP ρ vs) (fun acc μ2 => P (.lst acc) μ2) (xs.drop (i + 1)) acc' μ4) (ys.drop j) acc' μ',
          ⟨ys.length, d6, μ6, acc, avs, eB.trans E6, w6, hD6, rA.mono E6, (ee4.mono (e5.trans e6)).wipe vs1, iv, by omega, by omega, by simpa using q6⟩, fun j n H7 hW1 => ?_⟩
        obtain ⟨dC, μ7, acc', bvs, E7, w7, hD7, rA7, env7, iv7, en, hal, q7⟩ := hW1
        obtain ⟨itg1, its1⟩ := iv3 dC H7 μ7 iv7 w7
        have bC : D ∈ dC.ban := by rw [E7.ban]; exact List.mem_cons_self
        have nC : D ∉ dC.am := (w7.ban D bC).2
        cases hy1 : ys[j]? with
        | none =>
          have hle : ys.length ≤ j := List.getElem?_eq_none_iff.mp hy1
          rw [List.drop_of_length_le hle] at q7
          exact .inl ⟨its1 j hle, dC, μ7, acc', bvs, E7, w7, hD7, rA7, q7⟩
        | some y =>
          have hlt1 : j < ys.length := (List.getElem?_eq_some_iff.mp hy1).1
          rw [drop_cons hy1] at q7
          obtain ⟨go1, yl1⟩ := itg1 j y hy1
          refine .inr ⟨go1, fun H8 => ∃ dC μ' acc' bvs, Ext ⟨d1.am, D :: d1.ban⟩ H1 dC H8 ∧ WOk K dC H8 μ' ∧ H8 D = some (.lst bvs) ∧ RVs K dC H8 acc' bvs ∧ REnv K dC H8 (wipeP ρ4 vs1) (wipe σ4 vs1) ∧ Iv dC H8 ∧ acc'.length ≤ acc.length + (j + 1) ∧
            mLcL mg1 mt1 me (wipeP ρ4 vs1) (fun acc' μ4 => mLcO mg mt mi1 mg1 mt1 me vs1 (wipeP ρ vs) (fun acc μ2 => P (.lst acc) μ2) (xs.drop (i + 1)) acc' μ4) (ys.drop (j + 1)) acc' μ', fun H8 hN => ?_, fun v8 H8 hy8 => ?_⟩
          · obtain ⟨a1, a2, a3, a4, a5, a6, a7, a8, a9, a10, a11, a12⟩ := hN
            exact ⟨n - 1, by omega, a1, a2, a3, a4, a5, a6, a7, a8, a9, a10, by omega, a11, a12⟩
          · obtain ⟨ey8, wy8, ry8⟩ := yl1 v8 H8 hy8
            refine hg1.run dC (wipe σ4 vs1) H8 (wipeP ρ4 vs1) μ7 y v8 _ _ wy8 (env7.mono ey8) ry8 q7 fun d9 σ9 H9 ρ9 μ9 e9 w9 ee9 hl9 hs9 q9 => ⟨wipe_same hl9 hs9 hs1, ?_⟩
            refine hc1.run d9 σ9 H9 ρ9 μ9 _ _ w9 ee9 q9 fun dE HE μE b eE wE qE => ?_
            have F9 : Ext dC H7 dE HE := (ey8.trans e9).trans eE
            cases b
            · exact ⟨dE, μE, acc', bvs, E7.trans F9, wE, F9.keep _ _ hD7 nC, rA7.mono F9, env7.mono F9, iv1 _ _ _ _ iv7 F9, by omega, qE⟩
            · refine he.run dE σ9 HE ρ9 μE _ _ wE (ee9.mono eE) qE fun dG HG μG z u eG wG rG qG => ?_
              have FG : Ext dC H7 dG HG := F9.trans eG
              have hDG : HG D = some (.lst bvs) := FG.keep _ _ hD7 nC
              have bG : D ∈ dG.ban := by rw [FG.ban]; exact bC
              have rAG := (rA7.mono FG).append (.cons rG .nil)
              have EG := E7.trans FG
              have nG := no_tup hDG
              refine ⟨bvs, hDG, by rw [← rA7.length]; exact lim_lt' (by omega), dG, μG, acc' ++ [z], bvs ++ [u], ⟨EG.am, EG.ban, fun b o hb hn => by rw [upd_ne (ne_of_none hb hD)]; exact EG.keep b o hb hn⟩, wG.made bG nG, upd_same, rAG.made bG nG, ?_, iv2 _ _ _ _ _ (iv1 _ _ _ _ iv7 FG) bG hDG, by rw [List.length_append]; simp; omega, qG⟩
              have em := env7.mono FG
              exact ⟨em.1, fun i x q => let ⟨v, a, c⟩ := em.2 i x q; ⟨v, a, c.made bG nG⟩⟩⟩
end
end Fx
namespace Fx
open PySem PySem.Spec PyProof.Rows L2 RZ
section
variable {X : Cx}
theorem opk_plus (K : PySem.W.Frag) (h : X.K = K) : OpR X (binaryOp .Add) (rPlus K) := h ▸ op_plus
theorem opk_times (K : PySem.W.Frag) (h : X.K = K) : OpR X (binaryOp .Mult) (rTimes K) := h ▸ op_times
theorem opk_neX (K : PySem.W.Frag) (h : X.K = K) (hu : X.A.units + 64 < cLine) : OpR X (compareOp .NotEq) (rNeX K) := h ▸ op_neX hu
theorem ixk_seq (K : PySem.W.Frag) (h : X.K = K) : IxR X (rIx K) := h ▸ ix_seq
theorem pgk_tup (K : PySem.W.Frag) (n : Nat) (h : X.K = K) {pos : Pos} {es : List Expr} {k : Nat} {t : TGs} (hc : X.calm = true) (hp : PGs X es t) (hn : (assignEach es X.env).length = n) (hs : (assignEach es X.env).findIdx? (fun x => x.fst) = none) :
    PG X (.Tuple es k pos) (gTup K n t) := h ▸ pg_tup hc hp hn hs
variable {k : Nat} {f : Addr} {fd : FuncData} {ps ks : List Str} {S : PSp} {x : Str} {p pos : Pos} {e : Expr} {es : List Expr} {kws : List Keyword} {t tk : TA}
theorem pek_call (K : PySem.W.Frag) (h : X.K = K) {k : Nat} {f : Addr} {fd : FuncData} {ps : List Str} {S : PSp} {x : Str} {p pos : Pos} {e : Expr} {es : List Expr} {t : TA}
    (F : FnG X.prog X.w X.K X.mg X.base k f fd ps S) (hr : Room k X.A) (hgd : X.A.guards = some []) (hg : Gl X x) (hm : X.mg x = some (.ref f)) (hk : PySem.W.keepIn X.K (.ref f) = true) (hb : Binds X.K fd ps [])
    (ha : PA X (e :: es) t) (hdb : (x == ("__debug__" : Str)) = false := by decide) (he : starEach (e :: es) X.env = (false, eval e X.env) :: starEach es X.env := by rfl) (hpl : (backTo pos (starEach es X.env)).any (·.1) = false := by rfl) :
    PE X (.Call (.Name x p) (e :: es) [] pos) (tCallG K S t) := h ▸ pe_callG F hr hgd hg hm hk hb ha hdb he hpl
end
end Fx
namespace Fx
open PySem PySem.Spec PyProof.Rows L2 RZ
abbrev MIC := PEnv → Store → (List PV → (Store → Prop) → Store → Prop) → Prop
def ItC (K : PySem.W.Frag) (d0 : Wd) (H0 : Hp) (J : It) (xs : List PV) (C : Store → Prop) : Prop :=
  ∀ d1 d H μ, Bars d0 d1 H0 → Ext d1 H0 d H → WOk K d H μ → C μ → (∀ (i : Nat) x, xs[i]? = some x → J.go i H ∧ ∀ v H', J.yld i H v H' → Ext d H d H' ∧ WOk K d H' μ ∧ RV K d H' x v) ∧ (∀ i, xs.length ≤ i → J.stop i H)
class FC (K : PySem.W.Frag) (t : TI) (m : outParam MIC) : Prop where
  run : ∀ (d : Wd) (σ : L2.St) (H : Hp) (ρ : PEnv) (μ : Store) (P : List PV → (Store → Prop) → Store → Prop) (R : It → Hp → Prop), WOk K d H μ → REnv K d H ρ σ → m ρ μ P →
    (∀ d' H' μ' J xs C, Ext d H d' H' → WOk K d' H' μ' → ItC K d' H' J xs C → P xs C μ' → R J H') → t σ H R
def iSeqM (K : PySem.W.Frag) (tl : TE) : TI := iSeq K tl
theorem pi_seqM {X : Cx} {tg l : Expr} {tl : TE} (hl : PE X l tl) : PI X tg l (iSeqM X.K tl) := pi_seq hl
section
variable {K : PySem.W.Frag} {d d' : Wd} {H H' : Hp} {a b : Addr} {vs us : List V} {xs ys : List PV} {μ : Store}
def mSeqC (m : ME) : MIC := fun ρ μ P => m ρ μ fun x μ1 => match x with | .mr n => (match μ1[n]? with | some (.lst xs) => P xs (fun μ2 => μ2[n]? = some (.lst xs)) μ1 | _ => False) | _ => False
instance {t m} [h : FE K t m] : FC K (iSeqM K t) (mSeqC m) := ⟨fun d σ H ρ μ P R w e q k => by
  refine h.run d σ H ρ μ _ _ w e q fun d1 H1 μ1 x v e1 w1 r1 q1 => ?_
  cases r1 with
  | @mr n a h1 =>
    simp only at q1
    cases e2 : μ1[n]? with
    | none => rw [e2] at q1; exact q1.elim
    | some m =>
      cases m with
      | dk _ => rw [e2] at q1; exact q1.elim
      | fd _ _ _ => rw [e2] at q1; exact q1.elim
      | tk _ => rw [e2] at q1; exact q1.elim
      | ft _ _ _ => rw [e2] at q1; exact q1.elim
      | lst xs =>
        rw [e2] at q1
        obtain ⟨vs, hq, rv⟩ := w1.obj h1 e2
        refine ⟨a, rfl, .inl ⟨⟨vs, .of hq⟩, k d1 H1 μ1 _ _ _ e1 w1 (fun d2 d3 H3 μ3 bb ee w3 hC => ?_) q1⟩⟩
        have h3 : d3.am[n]? = some a := ee.at (by rw [bb.1]; exact h1)
        obtain ⟨ws, hq3, rw3⟩ := w3.obj h3 hC
        refine ⟨fun i x hx => ?_, fun i hi => ⟨ws, .of hq3, by rw [← rw3.length]; exact hi⟩⟩
        obtain ⟨v, hv, rv'⟩ := rw3.get hx
        refine ⟨⟨ws, v, .of hq3, hv⟩, fun u H4 hy => ?_⟩
        obtain ⟨rfl, f⟩ := hy
        have e1 := f ws (.of hq3)
        rw [hv] at e1; cases e1
        exact ⟨.refl, w3, rv'⟩
  | _ => exact q1.elim⟩
def mForLC (C : Store → Prop) (g : MG) (b : MS) (P : MEnds) : List PV → PEnv → Store → Prop
  | [], ρ, μ => C μ ∧ P.nx ρ μ
  | x :: xs, ρ, μ => C μ ∧ g x ρ μ fun ρ1 μ1 => b { P with nx := mForLC C g b P xs, ct := mForLC C g b P xs, bk := P.nx } ρ1 μ1
def mForC (mi : MIC) (g : MG) (b : MS) : MS := fun P ρ μ => mi ρ μ fun xs C μ1 => mForLC C g b P xs ρ μ1
instance {wi mi g mg s tb mb} [hi : FC K wi mi] [hg : FG K g mg s] [hb : FS K tb mb] : FS K (tFor wi g tb) (mForC mi mg mb) := ⟨fun d σ H ρ μ P D w e q l => by
  refine hi.run d σ H ρ μ _ _ w e q fun d1 H1 μ1 J xs C e1 w1 it q1 => ?_
  refine ⟨fun i m σ' H' => ∃ d' ρ' μ', Ext d1 H1 d' H' ∧ WOk K d' H' μ' ∧ REnv K d' H' ρ' σ' ∧ i + m = xs.length ∧ mForLC C mg mb P (xs.drop i) ρ' μ', ⟨xs.length, d1, ρ, μ1, .refl, w1, e.mono e1, by omega, by simpa using q1⟩, fun i m σ' H' hW => ?_⟩
  obtain ⟨d2, ρ2, μ2, e2, w2, ee2, em, q2⟩ := hW
  have hC : C μ2 := by
    cases h : xs.drop i with
    | nil => rw [h] at q2; exact q2.1
    | cons x r => rw [h] at q2; exact q2.1
  obtain ⟨itg, its⟩ := it d1 d2 H' μ2 ⟨rfl, fun _ h => .inl h⟩ e2 w2 hC
  cases hx : xs[i]? with
  | none =>
    have hle : xs.length ≤ i := List.getElem?_eq_none_iff.mp hx
    rw [List.drop_of_length_le hle] at q2
    exact .inl ⟨its i hle, l.nx d2 σ' H' ρ2 μ2 (e1.trans e2) w2 ee2 q2.2⟩
  | some x =>
    have hlt : i < xs.length := (List.getElem?_eq_some_iff.mp hx).1
    rw [drop_cons hx] at q2
    obtain ⟨go, yl⟩ := itg i x hx
    refine .inr ⟨go, fun σ3 H3 => ∃ d' ρ' μ', Ext d1 H1 d' H3 ∧ WOk K d' H3 μ' ∧ REnv K d' H3 ρ' σ3 ∧ mForLC C mg mb P (xs.drop (i + 1)) ρ' μ', fun σ3 H3 hN => ?_, fun v H3 hy => ?_⟩
    · obtain ⟨d3, ρ3, μ3, a1, a2, a3, a4⟩ := hN
      exact ⟨m - 1, by omega, d3, ρ3, μ3, a1, a2, a3, by omega, a4⟩
    · obtain ⟨ey, wy, ry⟩ := yl v H3 hy
      refine hg.run d2 σ' H3 ρ2 μ2 x v _ _ wy (ee2.mono ey) ry q2.2 fun d4 σ4 H4 ρ4 μ4 e4 w4 ee4 _ _ q4 => ?_
      have E4 : Ext d H d4 H4 := ((e1.trans e2).trans ey).trans e4
      have E4' : Ext d1 H1 d4 H4 := (e2.trans ey).trans e4
      exact hb.run d4 σ4 H4 ρ4 μ4 _ _ w4 ee4 q4
        ⟨fun d5 σ5 H5 ρ5 μ5 e5 w5 ee5 q5 => ⟨d5, ρ5, μ5, E4'.trans e5, w5, ee5, q5⟩, fun d5 H5 μ5 x v e5 => l.rt d5 H5 μ5 x v (E4.trans e5),
         fun d5 σ5 H5 ρ5 μ5 e5 => l.nx d5 σ5 H5 ρ5 μ5 (E4.trans e5), fun d5 σ5 H5 ρ5 μ5 e5 w5 ee5 q5 => ⟨d5, ρ5, μ5, E4'.trans e5, w5, ee5, q5⟩⟩⟩
def mLcLC (C : Store → Prop) (g : MG) (c : MT) (e : ME) (ρ0 : PEnv) (P : List PV → Store → Prop) : List PV → List PV → Store → Prop
  | [], acc, μ => C μ ∧ P acc μ
  | x :: xs, acc, μ => C μ ∧ g x ρ0 μ fun ρ1 μ1 => c ρ1 μ1 fun b μ2 => if b = true then e ρ1 μ2 fun y μ3 => mLcLC C g c e ρ0 P xs (acc ++ [y]) μ3 else mLcLC C g c e ρ0 P xs acc μ2
theorem mLcLC_C {C : Store → Prop} {g : MG} {c : MT} {e : ME} {ρ0 : PEnv} {P : List PV → Store → Prop} {xs acc : List PV} {μ : Store} (h : mLcLC C g c e ρ0 P xs acc μ) : C μ := by
  cases xs <;> exact h.1
theorem lc_runC {wi mi g mg s tt mt te me} {vs : List Nat} [hi : FC K wi mi] [hg : FG K g mg s] [hc : FT K tt mt] [he : FE K te me] {σ : L2.St} {ρ : PEnv} {P : List PV → Store → Prop} {Q : VK} (w : WOk K d H μ) (e : REnv K d H ρ σ) (hs : ∀ i ∈ s, i ∈ vs)
    (q : mi ρ μ fun xs C μ1 => xs.length ≤ lim ∧ mLcLC C mg mt me (wipeP ρ vs) P xs [] μ1)
    (fin : ∀ (d1 : Wd) (H1 : Hp) (D : Addr) (dB : Wd) (H' : Hp) (μ' : Store) (acc : List PV) (avs : List V), Ext d H d1 H1 → H1 D = none → D ∉ d1.ban → Ext ⟨d1.am, D :: d1.ban⟩ H1 dB H' → WOk K dB H' μ' → H' D = some (.lst avs) → RVs K dB H' acc avs → P acc μ' → Q (.ref D) H') :
    tLc wi g tt te vs σ H Q := by
  refine hi.run d σ H ρ μ _ _ w e q fun d1 H1 μ1 J xs C e1 w1 it ⟨hz, q1⟩ => ?_
  intro D hD
  have bD : Bars d1 ⟨d1.am, D :: d1.ban⟩ H1 := ⟨rfl, fun x q => (List.mem_cons.mp q).elim (fun z => .inr (by rw [z]; exact hD)) .inl⟩
  have envB : REnv K ⟨d1.am, D :: d1.ban⟩ H1 (wipeP ρ vs) (wipe σ vs) := ((e.mono e1).bars bD).wipe vs
  have lay0 : Ext ⟨d1.am, D :: d1.ban⟩ H1 ⟨d1.am, D :: d1.ban⟩ (upd H1 D (.lst [])) := ⟨⟨[], by simp, fun p hp => by simp at hp⟩, rfl, fun b u e _ => by rw [upd_ne (ne_of_none e hD)]; exact e⟩
  refine ⟨fun i m H' => ∃ dB μ' acc avs, Ext ⟨d1.am, D :: d1.ban⟩ H1 dB H' ∧ WOk K dB H' μ' ∧ H' D = some (.lst avs) ∧ RVs K dB H' acc avs ∧ i + m = xs.length ∧ acc.length ≤ i ∧ mLcLC C mg mt me (wipeP ρ vs) P (xs.drop i) acc μ',
    ⟨xs.length, _, μ1, [], [], lay0, w1.barD hD, upd_same, .nil, by omega, Nat.le_refl _, by simpa using q1⟩, fun i m H' hW => ?_⟩
  obtain ⟨dB, μ', acc, avs, eB, wB, hDv, rA, em, hal, q2⟩ := hW
  have hDban : D ∈ dB.ban := by rw [eB.ban]; exact List.mem_cons_self
  obtain ⟨itg, its⟩ := it _ dB H' μ' bD eB wB (mLcLC_C q2)
  cases hx : xs[i]? with
  | none =>
    have hle : xs.length ≤ i := List.getElem?_eq_none_iff.mp hx
    rw [List.drop_of_length_le hle] at q2
    exact .inl ⟨its i hle, fin d1 H1 D dB H' μ' acc avs e1 hD (w1.notban hD) eB wB hDv rA q2.2⟩
  | some x =>
    have hlt : i < xs.length := (List.getElem?_eq_some_iff.mp hx).1
    rw [drop_cons hx] at q2
    obtain ⟨go, yl⟩ := itg i x hx
    refine .inr ⟨go, fun H3 => ∃ dB μ' acc avs, Ext ⟨d1.am, D :: d1.ban⟩ H1 dB H3 ∧ WOk K dB H3 μ' ∧ H3 D = some (.lst avs) ∧ RVs K dB H3 acc avs ∧ acc.length ≤ i + 1 ∧ mLcLC C mg mt me (wipeP ρ vs) P (xs.drop (i + 1)) acc μ', fun H3 hN => ?_, fun v H3 hy => ?_⟩
    · obtain ⟨a1, a2, a3, a4, a5, a6, a7, a8, a9, a10⟩ := hN
      exact ⟨m - 1, by omega, a1, a2, a3, a4, a5, a6, a7, a8, by omega, a9, a10⟩
    · obtain ⟨ey, wy, ry⟩ := yl v H3 hy
      refine hg.run dB (wipe σ vs) H3 (wipeP ρ vs) μ' x v _ _ wy (envB.mono (eB.trans ey)) ry q2.2 fun d4 σ4 H4 ρ4 μ4 e4 w4 ee4 hl4 hs4 q4 => ⟨wipe_same hl4 hs4 hs, ?_⟩
      refine hc.run d4 σ4 H4 ρ4 μ4 _ _ w4 ee4 q4 fun d5 H5 μ5 b e5 w5 q5 => ?_
      have nD : D ∉ dB.am := (wB.ban D hDban).2
      have E5 : Ext dB H' d5 H5 := (ey.trans e4).trans e5
      cases b
      · exact ⟨d5, μ5, acc, avs, eB.trans E5, w5, E5.keep _ _ hDv nD, rA.mono E5, by omega, q5⟩
      · refine he.run d5 σ4 H5 ρ4 μ5 _ _ w5 (ee4.mono e5) q5 fun d6 H6 μ6 y u e6 w6 r6 q6 => ?_
        have E6 : Ext dB H' d6 H6 := E5.trans e6
        have hD6 : H6 D = some (.lst avs) := E6.keep _ _ hDv nD
        have ban6 : D ∈ d6.ban := by rw [E6.ban]; exact hDban
        have rA6 := (rA.mono E6).append (.cons r6 .nil)
        refine ⟨avs, hD6, by rw [← rA.length]; exact lim_lt' (by omega), d6, μ6, acc ++ [y], avs ++ [u], ?_, w6.made ban6 (no_tup hD6), upd_same, rA6.made ban6 (no_tup hD6), by rw [List.length_append]; simp; omega, q6⟩
        have E7 := eB.trans E6
        exact ⟨E7.am, E7.ban, fun b o hb hn => by rw [upd_ne (ne_of_none hb hD)]; exact E7.keep b o hb hn⟩
def mLcC (mi : MIC) (g : MG) (c : MT) (e : ME) (s vs : List Nat) : ME := fun ρ μ P => (∀ i ∈ s, i ∈ vs) ∧ mi ρ μ fun xs C μ1 => xs.length ≤ lim ∧ mLcLC C g c e (wipeP ρ vs) (fun acc μ2 => P (.lst acc) μ2) xs [] μ1
instance {wi mi g mg s tt mt te me vs} [hi : FC K wi mi] [hg : FG K g mg s] [hc : FT K tt mt] [he : FE K te me] : FE K (tLc wi g tt te vs) (mLcC mi mg mt me s vs) := ⟨fun d σ H ρ μ P Q w e q k => by
  refine lc_runC w e q.1 q.2 fun d1 H1 D dB H' μ' acc avs e1 hD hDn eB w' hv r p => ?_
  obtain ⟨x1, x2, x3⟩ := lc_frozen e1 hD hDn eB w' hv r
  exact k _ H' μ' _ _ x1 x2 x3 p⟩
end
section
variable {α : Type} {g : MG} {c : MT} {e : ME} {ρ0 : PEnv} {P : List PV → Store → Prop} {C : Store → Prop}
theorem lcC_map {enc out : α → PV} {μ : Store} (hC : C μ) : ∀ {l : List α} {acc : List PV}, (∀ a ∈ l, ∀ k : PV → Store → Prop, k (out a) μ → g (enc a) ρ0 μ fun ρ1 μ1 => e ρ1 μ1 k) → P (acc ++ l.map out) μ → mLcLC C g mYes e ρ0 P (l.map enc) acc μ
  | [], acc, _, hP => by simpa [mLcLC, hC] using hP
  | a :: l, acc, h, hP => by
    refine ⟨hC, ?_⟩
    show g (enc a) ρ0 μ fun ρ1 μ1 => e ρ1 μ1 fun y μ3 => mLcLC C g mYes e ρ0 P (l.map enc) (acc ++ [y]) μ3
    exact h a List.mem_cons_self _ (lcC_map hC (fun b hb => h b (List.mem_cons_of_mem _ hb)) (by simpa using hP))
end
end Fx
namespace Fx
open PySem PySem.Spec PyProof.Rows L2 RZ
theorem fun_uniq {K : PySem.W.Frag} {x qual : Str} {st : Stmt} {f : Addr} {fd fd' : FuncData} (F : Fun K x qual st f fd) (F' : Fun K x qual st f fd') : fd = fd' := by
  obtain ⟨oc, od, kV, doc, pm, an, cdv, ct, osl, e, lk, hcd⟩ := F.ex
  obtain ⟨oc', od', kV', doc', pm', an', cdv', ct', osl', e', lk', hcd'⟩ := F'.ex
  rw [lk] at lk'
  injection lk' with h
  injection h with h1 h2 h3
  injection h3
theorem law_fin {P : Program} {w : World} {K : PySem.W.Frag} {mg : Str → Option Value} {k n : Nat} {st : Stmt} {fa : Addr} {ps : Str} {S : PSp} (hfa : mg "law" = some (.ref fa)) (o : Own K mg "law" st)
    (hb : ∀ (kV doc pm : Value) (an : Option Addr) (cdv ct : Value) (s : Shared) (u : Value), BindsTo s (PySem.W.fnOf "law" "law" (defArgs st) (defBody st) (defScope st) .none kV doc pm an cdv ct) ⟨[u], []⟩ [(ps, u)])
    (ok : ∀ base : Heap, K.In base → base.Ns mainGlobals mg → Ok P w K mg base k "law" st [ps] S) (hS : ∀ xs μ Q, lawS n xs μ Q → S xs μ Q) :
    ∃ fd : FuncData, (∀ (s : Shared) (u : Value), BindsTo s fd ⟨[u], []⟩ [(ps, u)]) ∧ ∀ base : Heap, K.In base → base.Ns mainGlobals mg → FnG P w K mg base k fa fd [ps] (lawS n) := by
  obtain ⟨f, fd, F, e⟩ := o
  rw [hfa] at e
  cases e
  obtain ⟨oc, od, kV, doc, pm, an, cdv, ct, osl, ef, lk, hcd⟩ := F.ex
  refine ⟨fd, fun s u => by rw [ef]; exact hb kV doc pm an cdv ct s u, fun base hK hg => ?_⟩
  obtain ⟨f', fd', F', e', b', G'⟩ := ok base hK hg
  rw [hfa] at e'
  cases e'
  have := fun_uniq F F'
  subst this
  exact G'.imp hS
theorem own_mk {K : PySem.W.Frag} {h : Heap} {mg : Str → Option Value} {x : Str} {st : Stmt} {f : Addr} {od an : Option Addr} {sl : Array (Option Value)} {oc kV dc pm cd ct : Value} (X : K.In h) (G : h.Ns mainGlobals mg)
    (a : PySem.W.nsIn K mainGlobals x = some (some (.ref f))) (l : K.lookup f = some ⟨oc, od, .func (PySem.W.fnOf x x (defArgs st) (defBody st) (defScope st) .none kV dc pm an cd ct), sl⟩) (c : PySem.W.codeIn K cd x = true) (k : PySem.W.keepIn K (.ref f) = true) : Own K mg x st :=
  ⟨f, _, fun_mk l c k, PySem.W.mg_of X G a⟩
theorem blt_mk {K : PySem.W.Frag} {h : Heap} {mg : Str → Option Value} (X : K.In h) (G : h.Ns mainGlobals mg) (z : ∀ x ∈ names0, PySem.W.nsIn K mainGlobals x = some none) : Blt mg := fun x hx => PySem.W.mg_none_of X G (z x hx)
end Fx
namespace Fx
open PySem PySem.Spec PyProof.Rows L2 RZ
section
variable {K : PySem.W.Frag}
def mSortSet (m : ME) : ME := fun ρ μ P => m ρ μ fun x μ1 => match x with | .tup ys => (match intsP ys with | some ns => ns.length < 63 ∧ ∀ ms : List Int, ms.Pairwise (· < ·) → (∀ k : Int, k ∈ ms ↔ k ∈ ns) → P (.lst (ms.map PV.int)) μ1 | none => False) | _ => False
end
theorem eqP_ints (L M : List Int) (μ : Store) : eqP (.lst (L.map PV.int)) (.lst (M.map PV.int)) μ = (match SeqAt.shaped (.list (L.map PyData.int)), SeqAt.shaped (.list (M.map PyData.int)) with | true, true => some (PyData.eqv (.list (L.map PyData.int)) (.list (M.map PyData.int))) | _, _ => none) := by
  have d : ∀ L : List Int, datPs (L.map PV.int) = some (L.map PyData.int) := fun L => by
    induction L with
    | nil => rfl
    | cons x xs ih => simp [datPs, datP, ih]
  unfold eqP
  simp only [scalP, frzP, datP, d, Option.map_some]
  cases SeqAt.shaped (.list (L.map PyData.int)) <;> cases SeqAt.shaped (.list (M.map PyData.int)) <;> simp
end Fx
namespace Fx
open PySem PySem.Spec PyProof.Rows L2 RZ
section
variable {prog : Program} {w : World} {A : Around} {E : Value → Shared → Prop} {s : Shared}
end
section
variable {K : PySem.W.Frag}
def mRevT (m : ME) : ME := fun ρ μ P => m ρ μ fun x μ1 => match itemsOf x μ1 with | some xs => (match x with | .tup _ => P (.tup xs.reverse) μ1 | _ => False) | none => False
end
end Fx
namespace Fx
open PySem PySem.Spec PyProof.Rows L2 RZ
section
variable {K : PySem.W.Frag} {d d' : Wd} {H H' : Hp} {a b : Addr} {vs us : List V} {xs ys : List PV} {μ : Store}
def mTruth (m : ME) : MT := fun ρ μ P => m ρ μ fun x μ1 => match x with | .bl b => P b μ1 | .int i => P (i != 0) μ1 | _ => False
def pReprA : MB := fun xs μ P => match xs with
  | [x] => (match x with
    | .int i => i.natAbs.log2 < 1920 ∧ P (.str (toString i : String)) μ
    | .bl c => P (.str (if c then "True" else "False" : String)) μ
    | .non => P (.str ("None" : String)) μ
    | y => pRepr [y] μ P)
  | _ => False
end
section
variable {K : PySem.W.Frag} {d d' : Wd} {H H' : Hp} {a b : Addr} {vs us : List V} {xs ys : List PV} {μ : Store}
def dkOfP (x : PV) (μ : Store) : Option (List (Key × PV)) := match x with | .mr n => (match μ[n]? with | some (.dk kvs) => some kvs | _ => none) | _ => none
def pLenD : MB := fun xs μ P => match xs with | [x] => (match dkOfP x μ with | some kvs => P (.int (kvs.length : Nat)) μ | none => False) | _ => False
def keyPV : Key → PV
  | .inl i => .int i
  | .inr x => .str x
def pLstD : MB := fun xs μ P => match xs with | [x] => (match dkOfP x μ with | some kvs => P (.lst (kvs.map fun kv => keyPV kv.1)) μ | none => False) | _ => False
def mDNew : ME := fun _ μ P => P (.mr μ.length) (μ ++ [.dk []])
instance : FE K tDNewK mDNew := ⟨fun d σ H ρ μ P Q w e q k => fun p hp => by
  have ee := Ext.push (o := .dK []) w hp
  exact k (d.push p) _ _ _ _ ee (w.push (m := .dk []) hp ⟨[], upd_same, rfl, .nil⟩) (lay_mr w) q⟩
end
section
variable {K : PySem.W.Frag} {d d' : Wd} {H H' : Hp} {a b : Addr} {vs us : List V} {xs ys : List PV} {μ : Store}
def pRepL : MO2 := fun x y μ P => match x, y with
  | .lst xs, .int k => (0 ≤ k ∧ k ≤ 1000 ∧ xs.length ≤ 1000) ∧ P (.lst (List.replicate k.toNat xs).flatten) μ
  | _, _ => False
end
section
variable {K : PySem.W.Frag}
def mLenSetN (m : ME) : ME := fun ρ μ P => m ρ μ fun x μ1 => match x with | .tup ys => (match intsP ys with | some ns => ns.length ≤ 4000 ∧ ∀ ms : List Int, ms.Nodup → (∀ k : Int, k ∈ ms ↔ k ∈ ns) → P (.int (ms.length : Nat)) μ1 | none => False) | _ => False
end
end Fx
namespace Fx
open PySem PySem.Spec PyProof.Rows L2 RZ
section
variable {K : PySem.W.Frag} {d d' : Wd} {H H' : Hp} {a b : Addr} {vs us : List V} {xs ys : List PV} {μ : Store}
def mLockV (i : Nat) (mb : MS) : MS := fun P ρ μ => match ρ[i]? with
  | some (some (.mr n)) => (match μ[n]? with
    | some (.dk kvs) => ∀ o ws, mb { nx := fun ρ' μ' => μ'[n]? = some (.fd o ws kvs) ∧ P.nx ρ' (μ'.set n (.dk kvs)), rt := fun x μ' => μ'[n]? = some (.fd o ws kvs) ∧ P.rt x (μ'.set n (.dk kvs)), bk := fun ρ' μ' => μ'[n]? = some (.fd o ws kvs) ∧ P.bk ρ' (μ'.set n (.dk kvs)), ct := fun ρ' μ' => μ'[n]? = some (.fd o ws kvs) ∧ P.ct ρ' (μ'.set n (.dk kvs)) } ρ (μ.set n (.fd o ws kvs))
    | _ => False)
  | _ => False
def mLockE (i : Nat) (me : ME) : ME := fun ρ μ P => match ρ[i]? with
  | some (some (.mr n)) => (match μ[n]? with
    | some (.dk kvs) => ∀ o ws, me ρ (μ.set n (.fd o ws kvs)) fun x μ' => μ'[n]? = some (.fd o ws kvs) ∧ P x (μ'.set n (.dk kvs))
    | _ => False)
  | _ => False
theorem rks_get {ws : List (Key × V)} : ∀ {kvs : List (Key × PV)} {ws : List (Key × V)}, ws.map (·.1) = kvs.map (·.1) → RVs K d H (kvs.map (·.2)) (ws.map (·.2)) → ∀ (i : Nat) (k : Key) (x : PV), kvs[i]? = some (k, x) → ∃ v, ws[i]? = some (k, v) ∧ RV K d H x v
  | [], _, _, _, i, k, x, h => by simp at h
  | p :: kvs, [], h1, _, _, _, _, _ => by simp at h1
  | p :: kvs, q :: ws, h1, h2, i, k, x, h => by
    simp only [List.map_cons, List.cons.injEq] at h1
    obtain ⟨z1, z2⟩ := h1
    cases h2 with
    | cons r t =>
      cases i with
      | zero =>
        simp at h
        subst h
        exact ⟨q.2, by obtain ⟨q1, q2⟩ := q; simp at z1; subst z1; rfl, r⟩
      | succ i =>
        obtain ⟨v, hv, rv⟩ := rks_get (ws := ws) z2 t i k x (by simpa using h)
        exact ⟨v, by simpa using hv, rv⟩
def mItemsC (m : ME) : MIC := fun ρ μ P => m ρ μ fun x μ1 => match x with | .mr n => (match μ1[n]? with | some (.fd o ws kvs) => P (kvs.map fun kv => .tup [keyPV kv.1, kv.2]) (fun μ2 => μ2[n]? = some (.fd o ws kvs)) μ1 | _ => False) | _ => False
def mKeysC (m : ME) : MIC := fun ρ μ P => m ρ μ fun x μ1 => match x with | .mr n => (match μ1[n]? with | some (.fd o ws kvs) => P (kvs.map fun kv => keyPV kv.1) (fun μ2 => μ2[n]? = some (.fd o ws kvs)) μ1 | _ => False) | _ => False
theorem key_rv (k : Key) : RV K d H (keyPV k) (kV k) := by
  cases k with
  | inl i => exact .int i
  | inr x => exact .str x
theorem fd_len {ws : List (Key × V)} {kvs : List (Key × PV)} (h : ws.map (·.1) = kvs.map (·.1)) : ws.length = kvs.length := by
  have := congrArg List.length h
  simpa using this
instance {t m} [h : FE K t m] : FC K (iItems t) (mItemsC m) := ⟨fun d σ H ρ μ P R w e q k => by
  refine h.run d σ H ρ μ _ _ w e q fun d1 H1 μ1 x v e1 w1 r1 q1 => ?_
  cases r1 with
  | @mr n a h1 =>
    simp only at q1
    split at q1
    · rename_i o ws kvs e2
      obtain ⟨hq, k1, k2⟩ := w1.obj h1 e2
      refine ⟨a, o, ws, rfl, hq, k d1 H1 μ1 _ _ _ e1 w1 (fun d2 d3 H3 μ3 bb ee w3 hC => ?_) q1⟩
      have h3 : d3.am[n]? = some a := ee.at (by rw [bb.1]; exact h1)
      obtain ⟨hq3, k3, k4⟩ := w3.obj h3 hC
      refine ⟨fun i x hx => ?_, fun i hi => ⟨hq3, by rw [fd_len k3]; simpa using hi⟩⟩
      have hi : i < kvs.length := by simpa using (List.getElem?_eq_some_iff.mp hx).1
      refine ⟨⟨hq3, by rw [fd_len k3]; exact hi⟩, fun u H4 hy => ?_⟩
      obtain ⟨T, kk, v, hv, rfl, hT, rfl⟩ := hy
      rw [List.getElem?_map, List.getElem?_eq_getElem hi] at hx
      have hx := Option.some.inj hx
      obtain ⟨v', hv', rv⟩ := rks_get (ws := ws) k3 k4 i _ _ (List.getElem?_eq_getElem hi)
      rw [hv'] at hv
      simp only [Option.some.injEq, Prod.mk.injEq] at hv
      obtain ⟨z1, z2⟩ := hv
      subst z2
      rw [← hx, ← z1]
      exact ⟨Ext.lay w3 hT, w3.lay hT, lay_tup w3 (.cons (key_rv _) (.cons rv .nil)) hT⟩
    · exact q1.elim
  | _ => exact q1.elim⟩
instance {t m} [h : FE K t m] : FC K (iKeys t) (mKeysC m) := ⟨fun d σ H ρ μ P R w e q k => by
  refine h.run d σ H ρ μ _ _ w e q fun d1 H1 μ1 x v e1 w1 r1 q1 => ?_
  cases r1 with
  | @mr n a h1 =>
    simp only at q1
    split at q1
    · rename_i o ws kvs e2
      obtain ⟨hq, k1, k2⟩ := w1.obj h1 e2
      refine ⟨a, o, rfl, .inl ⟨ws, hq, k d1 H1 μ1 _ _ _ e1 w1 (fun d2 d3 H3 μ3 bb ee w3 hC => ?_) q1⟩⟩
      have h3 : d3.am[n]? = some a := ee.at (by rw [bb.1]; exact h1)
      obtain ⟨hq3, k3, k4⟩ := w3.obj h3 hC
      refine ⟨fun i x hx => ?_, fun i hi => ⟨hq3, by rw [fd_len k3]; simpa using hi⟩⟩
      have hi : i < kvs.length := by simpa using (List.getElem?_eq_some_iff.mp hx).1
      refine ⟨⟨hq3, by rw [fd_len k3]; exact hi⟩, fun u H4 hy => ?_⟩
      obtain ⟨rfl, kk, v, hv, rfl⟩ := hy
      rw [List.getElem?_map, List.getElem?_eq_getElem hi] at hx
      have hx := Option.some.inj hx
      obtain ⟨v', hv', rv⟩ := rks_get (ws := ws) k3 k4 i _ _ (List.getElem?_eq_getElem hi)
      rw [hv'] at hv
      simp only [Option.some.injEq, Prod.mk.injEq] at hv
      rw [← hx, ← hv.1]
      exact ⟨.refl, w3, key_rv _⟩
    · exact q1.elim
  | _ => exact q1.elim⟩
def mDGet2 (md my mx : ME) : ME := fun ρ μ P => md ρ μ fun x μ1 => (dictOfP x μ1).isSome = true ∧ my ρ μ1 fun y μ2 => mx ρ μ2 fun z μ3 => match dictOfP x μ3, keyP y with | some kvs, some k => P ((valP kvs k).getD z) μ3 | _, _ => False
instance {td ty tx md my mx} [hd : FE K td md] [hy : FE K ty my] [hx : FE K tx mx] : FE K (tDGet2 td ty tx) (mDGet2 md my mx) := ⟨fun d σ H ρ μ P Q w e q k => by
  refine hd.run d σ H ρ μ _ _ w e q fun d1 H1 μ1 x v e1 w1 r1 ⟨q0, q1⟩ => ?_
  obtain ⟨kv0, a0⟩ := Option.isSome_iff_exists.mp q0
  obtain ⟨n, a, ws0, rfl, rfl, hn, hq0, _⟩ := dict_of w1 r1 a0
  refine ⟨a, rfl, .inl ⟨ws0, hq0⟩, hy.run d1 σ H1 ρ μ1 _ _ w1 (e.mono e1) q1 fun d2 H2 μ2 y u e2 w2 r2 q2 => ?_⟩
  refine hx.run d2 σ H2 ρ μ2 _ _ w2 (e.mono (e1.trans e2)) q2 fun d3 H3 μ3 z t e3 w3 r3 q3 => ?_
  cases a1 : dictOfP (.mr n) μ3 with
  | none => rw [a1] at q3; exact q3.elim
  | some kvs =>
    cases a2 : keyP y with
    | none => rw [a1, a2] at q3; exact q3.elim
    | some kk =>
      rw [a1, a2] at q3
      simp only at q3
      obtain ⟨n', a', ws, en, ea, _, hq, rk⟩ := dict_of w3 ((r1.mono e2).mono e3) a1
      cases ea
      obtain rfl := keyP_rv r2 a2
      rcases rk.val (k := kk) with ⟨z1, z2⟩ | ⟨x, v, z1, z2, rv⟩
      · rw [z1] at q3
        exact ⟨none, .inl ⟨ws, kk, hq, rfl, z2.symm⟩, k d3 H3 μ3 _ _ ((e1.trans e2).trans e3) w3 r3 q3⟩
      · rw [z1] at q3
        exact ⟨some v, .inl ⟨ws, kk, hq, rfl, z2.symm⟩, k d3 H3 μ3 _ _ ((e1.trans e2).trans e3) w3 rv q3⟩⟩
end
section
variable {K : PySem.W.Frag} {d d' : Wd} {H H' : Hp} {a b : Addr} {vs us : List V} {xs ys : List PV} {μ : Store}
def isNonP : PV → Bool | .non => true | _ => false
def pIsN (neg : Bool) : MO2 := fun x y μ P => match y with | .non => P (.bl (if neg then !isNonP x else isNonP x)) μ | _ => False
end
section
variable {K : PySem.W.Frag} {d d' : Wd} {H H' : Hp} {a b : Addr} {vs us : List V} {xs ys : List PV} {μ : Store}
def pRepLM : MO2 := fun x y μ P => match x, y with
  | .lst xs, .int k => (0 ≤ k ∧ k ≤ 1000 ∧ xs.length ≤ 1000) ∧ P (.mr μ.length) (μ ++ [.lst (List.replicate k.toNat xs).flatten])
  | _, _ => False
end
section
variable {K : PySem.W.Frag} {d d' : Wd} {H H' : Hp} {a b : Addr} {vs us : List V} {xs ys : List PV} {μ : Store}
def mTruD (m : ME) : MT := fun ρ μ P => m ρ μ fun x μ1 => match dkOfP x μ1 with | some kvs => P (!kvs.isEmpty) μ1 | none => False
def pPopAt : PV → List PV → Store → (PV → Store → Prop) → Prop := fun x zs μ P => match x, zs with
  | .mr n, [.int i] => (match μ[n]? with | some (.lst xs) => xs.length ≤ 1000000 ∧ (match ixN xs.length i with | some j => (match xs[j]? with | some y => P y (μ.set n (.lst (xs.eraseIdx j))) | none => False) | none => False) | _ => False)
  | _, _ => False
theorem RVs.eraseIdx : ∀ {xs : List PV} {vs : List V} (j : Nat), RVs K d H xs vs → RVs K d H (xs.eraseIdx j) (vs.eraseIdx j)
  | _, _, _, .nil => .nil
  | _, _, 0, .cons _ t => t
  | _, _, j + 1, .cons r t => .cons r (RVs.eraseIdx j t)
instance : FM K rPopAt pPopAt := ⟨fun d H μ x v zs us P Q w r rs q k => by
  match x, zs, r, rs, q with
  | .mr n, [.int i], .mr (a := a) h1, .cons (.int _) .nil, q =>
    simp only [pPopAt] at q
    cases e : μ[n]? with
    | none => rw [e] at q; exact q.elim
    | some m =>
      cases m with
      | dk _ => rw [e] at q; exact q.elim
      | fd _ _ _ => rw [e] at q; exact q.elim
      | tk _ => rw [e] at q; exact q.elim
      | ft _ _ _ => rw [e] at q; exact q.elim
      | lst xs =>
        rw [e] at q
        simp only at q
        obtain ⟨hl, q⟩ := q
        obtain ⟨vs, hq, rv⟩ := w.obj h1 e
        cases e2 : ixN xs.length i with
        | none => rw [e2] at q; exact q.elim
        | some j =>
          rw [e2] at q
          simp only at q
          obtain ⟨s1, s2, s3, s4⟩ := ixN_seq e2
          obtain ⟨u, hu, ru⟩ := rv.get (List.getElem?_eq_getElem s2)
          rw [List.getElem?_eq_getElem s2] at q
          obtain ⟨e1, w1⟩ := chg_list (vs := vs) w h1 (rv.eraseIdx j)
          exact ⟨a, vs, i, j, u, rfl, rfl, hq, by omega, by omega, by rw [← rv.length]; exact s1, hu, k d _ _ _ _ e1 w1 (ru.mono e1) q⟩⟩
def pIndex : PV → List PV → Store → (PV → Store → Prop) → Prop := fun x zs μ P => match x, zs with
  | .mr n, [.int i] => (match μ[n]? with | some (.lst xs) => (match intsP xs with | some ns => i ∈ ns ∧ P (.int (ns.idxOf i : Nat)) μ | none => False) | _ => False)
  | _, _ => False
instance : FM K (rIndex K) pIndex := ⟨fun d H μ x v zs us P Q w r rs q k => by
  match x, zs, r, rs, q with
  | .mr n, [.int i], .mr (a := a) h1, .cons (.int _) .nil, q =>
    simp only [pIndex] at q
    cases e : μ[n]? with
    | none => rw [e] at q; exact q.elim
    | some m =>
      cases m with
      | dk _ => rw [e] at q; exact q.elim
      | fd _ _ _ => rw [e] at q; exact q.elim
      | tk _ => rw [e] at q; exact q.elim
      | ft _ _ _ => rw [e] at q; exact q.elim
      | lst xs =>
        rw [e] at q
        simp only at q
        cases e2 : intsP xs with
        | none => rw [e2] at q; exact q.elim
        | some ns =>
          rw [e2] at q
          obtain ⟨hm, q⟩ := q
          obtain ⟨vs, hq, rv⟩ := w.obj h1 e
          have ev := RVs.ints_of rv (intsP_of e2)
          subst ev
          have hl := List.idxOf_lt_length_of_mem hm
          refine ⟨a, ns.map V.int, .int i, ns.idxOf i, .int i, rfl, rfl, .of hq, rfl, ?_, ?_, ?_, fun m z' hm' hz => ?_, k d H μ _ _ .refl w (.int _) q⟩
          · rw [List.all_map, List.all_eq_true]
            intro x _
            rfl
          · rw [List.getElem?_map, List.getElem?_eq_getElem hl, List.getElem_idxOf hl]
            rfl
          · show (i == i) = true
            simp
          · have hl2 : m < ns.length := by omega
            rw [List.getElem?_map, List.getElem?_eq_getElem hl2] at hz
            have hz := Option.some.inj hz
            subst hz
            show (ns[m] == i) = false
            have h := List.not_of_lt_findIdx (xs := ns) (p := (· == i)) (i := m) hm'
            simpa using h⟩
def mLstRgM (m : PEnv → Store → (Int → Int → Store → Prop) → Prop) : ME := fun ρ μ P => m ρ μ fun i j μ1 => (-1000000 ≤ i ∧ i ≤ 1000000 ∧ -1000000 ≤ j ∧ j ≤ 1000000) ∧ P (.mr μ1.length) (μ1 ++ [.lst (rangeP i (j - i).toNat)])
end
end Fx
namespace Fx
open PySem PySem.Spec PyProof.Rows L2 RZ
abbrev tkK (k : List Int) : PV := .tup (k.map .int)
def valT (kvs : List (List Int × PV)) (k : List Int) : Option PV := (kvs.find? fun kv => decide (kv.1 = k)).map (·.2)
def putT (kvs : List (List Int × PV)) (k : List Int) (v : PV) : List (List Int × PV) :=
  if (valT kvs k).isSome then kvs.map (fun kv => if kv.1 = k then (kv.1, v) else kv) else kvs ++ [(k, v)]
def RTs (K : PySem.W.Frag) (d : Wd) (H : Hp) (kvs : List (List Int × PV)) (ks : List (List Int × Addr × V)) : Prop :=
  ks.map (·.1) = kvs.map (·.1) ∧ RVs K d H (kvs.map fun kv => .tup (kv.1.map .int)) (ks.map fun p => .ref p.2.1) ∧ RVs K d H (kvs.map (·.2)) (ks.map (·.2.2))
section
variable {K : PySem.W.Frag} {d d' : Wd} {H H' : Hp} {a b : Addr} {vs us : List V} {xs ys : List PV} {μ : Store}
theorem RTs.nil : RTs K d H [] [] := ⟨rfl, .nil, .nil⟩
theorem RTs.cases {kvs : List (List Int × PV)} {ks : List (List Int × Addr × V)} (r : RTs K d H kvs ks) : (kvs = [] ∧ ks = []) ∨ ∃ k b x v kvs' ks', kvs = (k, x) :: kvs' ∧ ks = (k, b, v) :: ks' ∧ RV K d H (tkK k) (.ref b) ∧ RV K d H x v ∧ RTs K d H kvs' ks' := by
  obtain ⟨h1, h2, h3⟩ := r
  cases kvs with
  | nil => simp at h1; exact .inl ⟨rfl, h1⟩
  | cons p kvs =>
    cases ks with
    | nil => simp at h1
    | cons q ks =>
      obtain ⟨k, x⟩ := p
      obtain ⟨k', b, v⟩ := q
      simp only [List.map_cons, List.cons.injEq] at h1
      obtain ⟨e, h1⟩ := h1
      subst e
      cases h2 with
      | cons r t =>
        cases h3 with
        | cons r3 t3 => exact .inr ⟨_, _, _, _, _, _, rfl, rfl, r, r3, h1, t, t3⟩
theorem RTs.cons {k : List Int} {b : Addr} {x : PV} {v : V} {kvs : List (List Int × PV)} {ks : List (List Int × Addr × V)} (rk : RV K d H (tkK k) (.ref b)) (r : RV K d H x v) (t : RTs K d H kvs ks) : RTs K d H ((k, x) :: kvs) ((k, b, v) :: ks) :=
  ⟨by simp only [List.map_cons, t.1], .cons rk t.2.1, .cons r t.2.2⟩
theorem RTs.mono (e : Ext d H d' H') {kvs : List (List Int × PV)} {ks : List (List Int × Addr × V)} (r : RTs K d H kvs ks) : RTs K d' H' kvs ks := ⟨r.1, r.2.1.mono e, r.2.2.mono e⟩
theorem RTs.len {kvs : List (List Int × PV)} {ks : List (List Int × Addr × V)} (r : RTs K d H kvs ks) : kvs.length = ks.length := by
  have := congrArg List.length r.1
  simpa using this.symm
theorem RTs.append {kvs kvs' : List (List Int × PV)} {ks ks' : List (List Int × Addr × V)} (r : RTs K d H kvs ks) (t : RTs K d H kvs' ks') : RTs K d H (kvs ++ kvs') (ks ++ ks') := by
  refine ⟨by rw [List.map_append, List.map_append, r.1, t.1], ?_, ?_⟩
  · rw [List.map_append, List.map_append]
    exact r.2.1.append t.2.1
  · rw [List.map_append, List.map_append]
    exact r.2.2.append t.2.2
theorem tkK_sq {k : List Int} (r : RV K d H (tkK k) (.ref b)) : SqT K H b (k.map V.int) := by
  cases r with
  | tup h1 h2 =>
    have := RVs.ints h2
    subst this
    exact h1.sq
theorem RTs.sq : ∀ {kvs : List (List Int × PV)} {ks : List (List Int × Addr × V)}, RTs K d H kvs ks → ∀ p ∈ ks, SqT K H p.2.1 (p.1.map V.int)
  | [], ks, r, p, hp => by
    rcases r.cases with ⟨_, e⟩ | ⟨_, _, _, _, _, _, e, _⟩
    · subst e; simp at hp
    · cases e
  | q :: kvs, ks, r, p, hp => by
    rcases r.cases with ⟨e, _⟩ | ⟨k, b, x, v, kvs', ks', e1, e2, r1, r2, t⟩
    · cases e
    · cases e1; subst e2
      rcases List.mem_cons.mp hp with rfl | hp
      · exact tkK_sq r1
      · exact RTs.sq t p hp
theorem RTs.val {k : List Int} : ∀ {kvs : List (List Int × PV)} {ks : List (List Int × Addr × V)}, RTs K d H kvs ks → (valT kvs k = none ∧ valX ks k = none) ∨ ∃ x v, valT kvs k = some x ∧ valX ks k = some v ∧ RV K d H x v
  | [], ks, r => by
    rcases r.cases with ⟨_, e⟩ | ⟨_, _, _, _, _, _, e, _⟩
    · subst e; exact .inl ⟨rfl, rfl⟩
    · cases e
  | p :: kvs, ks, r => by
    rcases r.cases with ⟨e, _⟩ | ⟨k', b, x, v, kvs', ks', e1, e2, r1, r2, t⟩
    · cases e
    · cases e1; subst e2
      by_cases h : k' = k
      · subst h
        exact .inr ⟨x, v, by simp [valT], by simp [valX], r2⟩
      · have := RTs.val (k := k) t
        have a1 : valT ((k', x) :: kvs) k = valT kvs k := by simp [valT, List.find?_cons, h]
        have a2 : valX ((k', b, v) :: ks') k = valX ks' k := by simp [valX, List.find?_cons, h]
        rw [a1, a2]; exact this
theorem RTs.upd1 {k : List Int} {x : PV} {v : V} (rx : RV K d H x v) : ∀ {kvs : List (List Int × PV)} {ks : List (List Int × Addr × V)}, RTs K d H kvs ks → RTs K d H (kvs.map (fun kv => if kv.1 = k then (kv.1, x) else kv)) (ks.map fun p => if p.1 = k then (p.1, p.2.1, v) else p)
  | [], ks, r => by
    rcases r.cases with ⟨_, e⟩ | ⟨_, _, _, _, _, _, e, _⟩
    · subst e; exact .nil
    · cases e
  | p :: kvs, ks, r => by
    rcases r.cases with ⟨e, _⟩ | ⟨k', b, x', v', kvs', ks', e1, e2, r1, r2, t⟩
    · cases e
    · cases e1; subst e2
      rw [List.map_cons, List.map_cons]
      by_cases h : k' = k
      · simp only [h, if_true]
        exact .cons (h ▸ r1) rx (RTs.upd1 rx t)
      · simp only [h, if_false]
        exact .cons r1 r2 (RTs.upd1 rx t)
theorem RTs.put {k : List Int} {x : PV} {v : V} (rk : RV K d H (tkK k) (.ref b)) (rx : RV K d H x v) {kvs : List (List Int × PV)} {ks : List (List Int × Addr × V)} (r : RTs K d H kvs ks) : RTs K d H (putT kvs k x) (putX ks k b v) := by
  unfold putT putX
  have e : (valT kvs k).isSome = (valX ks k).isSome := by
    rcases r.val (k := k) with ⟨z, z'⟩ | ⟨x, v, z1, z2, _⟩
    · rw [z, z']; rfl
    · rw [z1, z2]; rfl
  rw [e]
  split
  · exact r.upd1 rx
  · exact r.append (.cons rk rx .nil)
def tkP : PV → Option (List Int)
  | .tup xs => intsP xs
  | _ => none
def tdP (x : PV) (μ : Store) : Option (List (List Int × PV)) := match x with | .mr n => (match μ[n]? with | some (.tk kvs) => some kvs | some (.ft _ _ kvs) => some kvs | _ => none) | _ => none
def mDNewT : ME := fun _ μ P => P (.mr μ.length) (μ ++ [.tk []])
def mDGetT (md my : ME) : ME := fun ρ μ P => md ρ μ fun x μ1 => my ρ μ1 fun y μ2 => match tdP x μ2, tkP y with | some kvs, some k => (match valT kvs k with | some v => P v μ2 | none => False) | _, _ => False
def mDGet2T (md my mx : ME) : ME := fun ρ μ P => md ρ μ fun x μ1 => (tdP x μ1).isSome = true ∧ my ρ μ1 fun y μ2 => mx ρ μ2 fun z μ3 => match tdP x μ3, tkP y with | some kvs, some k => P ((valT kvs k).getD z) μ3 | _, _ => False
def mDInT (my md : ME) : ME := fun ρ μ P => my ρ μ fun y μ1 => md ρ μ1 fun x μ2 => match tdP x μ2, tkP y with | some kvs, some k => P (.bl (valT kvs k).isSome) μ2 | _, _ => False
def mDPutT (md my mv : ME) : MS := fun P ρ μ => mv ρ μ fun z μ1 => md ρ μ1 fun x μ2 => my ρ μ2 fun y μ3 => match x, tkP y with | .mr n, some k => (match μ3[n]? with | some (.tk kvs) => kvs.length ≤ lim ∧ P.nx ρ (μ3.set n (.tk (putT kvs k z))) | _ => False) | _, _ => False
end
section
variable {K : PySem.W.Frag} {d d' : Wd} {H H' : Hp} {a b : Addr} {vs us : List V} {xs ys : List PV} {μ : Store}
def mLockX (i : Nat) (mb : MS) : MS := fun P ρ μ => match ρ[i]? with
  | some (some (.mr n)) => (match μ[n]? with
    | some (.tk kvs) => ∀ o ks, mb { nx := fun ρ' μ' => μ'[n]? = some (.ft o ks kvs) ∧ P.nx ρ' (μ'.set n (.tk kvs)), rt := fun x μ' => μ'[n]? = some (.ft o ks kvs) ∧ P.rt x (μ'.set n (.tk kvs)), bk := fun ρ' μ' => μ'[n]? = some (.ft o ks kvs) ∧ P.bk ρ' (μ'.set n (.tk kvs)), ct := fun ρ' μ' => μ'[n]? = some (.ft o ks kvs) ∧ P.ct ρ' (μ'.set n (.tk kvs)) } ρ (μ.set n (.ft o ks kvs))
    | _ => False)
  | _ => False
def mLockEX (i : Nat) (me : ME) : ME := fun ρ μ P => match ρ[i]? with
  | some (some (.mr n)) => (match μ[n]? with
    | some (.tk kvs) => ∀ o ks, me ρ (μ.set n (.ft o ks kvs)) fun x μ' => μ'[n]? = some (.ft o ks kvs) ∧ P x (μ'.set n (.tk kvs))
    | _ => False)
  | _ => False
def mKeysX (m : ME) : MIC := fun ρ μ P => m ρ μ fun x μ1 => match x with | .mr n => (match μ1[n]? with | some (.ft o ks kvs) => P (kvs.map fun kv => tkK kv.1) (fun μ2 => μ2[n]? = some (.ft o ks kvs)) μ1 | _ => False) | _ => False
def pLstX : MB := fun xs μ P => match xs with | [x] => (match tdP x μ with | some kvs => P (.lst (kvs.map fun kv => tkK kv.1)) μ | none => False) | _ => False
def pLenX : MB := fun xs μ P => match xs with | [x] => (match tdP x μ with | some kvs => P (.int (kvs.length : Nat)) μ | none => False) | _ => False
end
end Fx
namespace Fx
open PySem PySem.Spec PyProof.Rows L2 RZ MR
def frP (q : Rat) : PV := .tup [.int q.num, .int (q.den : Nat)]
def tabP (qs : List Rat) : PV := .tup (qs.map frP)
def lotP (ns : List Nat) : PV := .tup (ns.map fun (n : Nat) => PV.int n)
def seqP : PV → Option (List PV)
  | .tup xs => some xs
  | .lst xs => some xs
  | _ => none
theorem log_lt {x : Int} {n : Nat} (h : x.natAbs < 2 ^ n) : x.natAbs.log2 < n + 1 := by
  by_cases h0 : x.natAbs = 0
  · rw [h0]; show Nat.log2 0 < n + 1; rw [Nat.log2_zero]; omega
  · have := (Nat.log2_lt h0).mpr h
    omega
theorem mulOk {x y : Int} {m n : Nat} (hx : x.natAbs < 2 ^ m) (hy : y.natAbs < 2 ^ n) (h : m + n ≤ 90000000) : MulOk x y := by
  have h1 := log_lt hx
  have h2 := log_lt hy
  exact .inr (show _ + _ < _ by omega)
theorem gcd_div {a b : Int} {n : Nat} (hb : 0 < b) (hz : b.natAbs < 2 ^ n) (hn : n ≤ 8990 := by decide) : DivOk a ((Nat.gcd a.natAbs b.natAbs : Nat) : Int) := by
  have h1 : Nat.gcd a.natAbs b.natAbs ≤ b.natAbs := Nat.le_of_dvd (by omega) (Nat.gcd_dvd_right _ _)
  have h0 : 0 < Nat.gcd a.natAbs b.natAbs := Nat.gcd_pos_of_pos_right _ (by omega)
  have h2 : (((Nat.gcd a.natAbs b.natAbs : Nat) : Int)).natAbs < 2 ^ n := by
    rw [Int.natAbs_natCast]; omega
  have := log_lt h2
  exact .inl ⟨by omega, by omega⟩
theorem fr_eq {p q : Rat} : (p.num = q.num ∧ (p.den : Int) = (q.den : Int)) ↔ p = q := by
  constructor
  · intro ⟨h1, h2⟩
    exact Rat.ext h1 (by omega)
  · rintro rfl; exact ⟨rfl, rfl⟩
theorem eqP_tup2 (a b c d : Int) (μ : Store) : eqP (.tup [.int a, .int b]) (.tup [.int c, .int d]) μ = some (decide (a = c ∧ b = d)) := by
  have h : ∀ x y : Int, SeqAt.shaped (.tuple [.int x, .int y]) = true := fun x y => rfl
  unfold eqP
  simp only [scalP, frzP, datP, datPs, Option.map_some, h, and_self, if_true]
  simp only [PyData.eqv, PyData.eqvAll]
  congr 1
  by_cases h1 : a = c <;> by_cases h2 : b = d <;> simp [h1, h2]
theorem eqP_fr (p q : Rat) (μ : Store) : eqP (frP p) (frP q) μ = some (decide (p = q)) := by
  unfold frP
  rw [eqP_tup2]
  congr 1
  exact decide_eq_decide.mpr fr_eq
theorem one_fr : PV.tup [.int 1, .int 1] = frP 1 := rfl
theorem enumP_map {α : Type} (f : α → PV) : ∀ (xs : List α) (j : Nat), enumP j (xs.map f) = (numd j xs).map fun p => .tup [.int (p.1 : Nat), f p.2]
  | [], _ => rfl
  | x :: xs, j => by
    rw [List.map_cons, enumP, enumP_map f xs]
    rfl
theorem all_true {α : Type} (l : List α) : boolsP (([] : List PV) ++ l.map fun _ => PV.bl true) = some (l.map fun _ => true) := by
  have := boolsP_map (l.map fun _ => true)
  rw [List.map_map] at this
  exact this
theorem all_id {α : Type} (l : List α) : (l.map fun _ => true).all id = true := by simp
theorem fr_mul {m n : Nat} {p q : Rat} (hp : Sm m p) (hq : Sm n q) (h : m + n ≤ 90000000 := by decide) : MulOk p.num q.num ∧ MulOk p.num (q.den : Int) ∧ MulOk (p.den : Int) q.num ∧ MulOk (p.den : Int) (q.den : Int) :=
  ⟨mulOk hp.1 hq.1 h, mulOk (y := (q.den : Int)) hp.1 hq.2 h, mulOk (x := (p.den : Int)) hp.2 hq.1 h, mulOk (x := (p.den : Int)) (y := (q.den : Int)) hp.2 hq.2 h⟩
theorem gcd_one (q : Rat) : Nat.gcd q.num.natAbs ((q.den : Nat) : Int).natAbs = 1 := by
  rw [Int.natAbs_natCast]
  exact q.reduced
theorem kit_tt : kitB "tuple" "tuple" = some true := rfl
theorem kit_ii : kitB "int" "int" = some true := rfl
theorem kit_ib : kitB "int" "bool" = some false := rfl
theorem eqP_int (a b : Int) (μ : Store) : eqP (.int a) (.int b) μ = some (decide (a = b)) := rfl
theorem eqP_str (a b : Str) (μ : Store) : eqP (.str a) (.str b) μ = some (decide (a = b)) := rfl
def DK (l : PV) (m k : Int) : List (Key × PV) := [(.inr (Str.ofString "cells"), l), (.inr (Str.ofString "mixed"), .int m), (.inr (Str.ofString "draws"), .int k)]
theorem val_left (l : PV) (m k : Int) : valP (DK l m k) (.inr (Str.ofString "cells")) = some l := rfl
theorem val_mixed (l : PV) (m k : Int) : valP (DK l m k) (.inr (Str.ofString "mixed")) = some (.int m) := by
  have h : (Str.ofString "cells" = Str.ofString "mixed") = False := by decide
  simp [DK, valP, h]
theorem val_draws (l : PV) (m k : Int) : valP (DK l m k) (.inr (Str.ofString "draws")) = some (.int k) := by
  have h : (Str.ofString "cells" = Str.ofString "draws") = False := by decide
  have h2 : (Str.ofString "mixed" = Str.ofString "draws") = False := by decide
  simp [DK, valP, h, h2]
theorem put_draws (l : PV) (m k j : Int) : putP (DK l m k) (.inr (Str.ofString "draws")) (.int j) = DK l m j := by
  have h : (Str.ofString "cells" = Str.ofString "draws") = False := by decide
  have h2 : (Str.ofString "mixed" = Str.ofString "draws") = False := by decide
  simp [DK, putP, h, h2]
def DS (L : List Int) (m k : Int) (rest : Store) : Store := .lst (L.map PV.int) :: .dk (DK (.mr 0) m k) :: rest
theorem datPs_ints : ∀ L : List Int, datPs (L.map PV.int) = some (L.map PyData.int)
  | [] => rfl
  | x :: xs => by simp [datPs, datP, datPs_ints xs]
theorem canLay_ints : ∀ L : List Int, PyData.canLayAll0 (L.map PyData.int) = true
  | [] => rfl
  | x :: xs => by simp [PyData.canLayAll0, PyData.canLay0, canLay_ints xs]
theorem depth_ints : ∀ L : List Int, PyData.depthAll (L.map PyData.int) ≤ 1
  | [] => by simp [PyData.depthAll]
  | x :: xs => by
    have := depth_ints xs
    simp [PyData.depthAll, PyData.depth]
    omega
theorem shaped_ints (L : List Int) : SeqAt.shaped (.list (L.map PyData.int)) = true := by
  have := depth_ints L
  simp [SeqAt.shaped, PyData.canLay0, canLay_ints, PyData.depth]
  omega
theorem eqP_empty {n : Nat} {μ : Store} {L : List Int} (h : μ[n]? = some (.lst (L.map PV.int))) : eqP (.mr n) (.lst []) μ = some (decide (L = [])) := by
  have h1 := shaped_ints L
  have h2 := shaped_ints []
  simp only [List.map_nil] at h2
  unfold eqP
  simp only [scalP, frzP, h, datP, datPs_ints, datPs, Option.map_some, h1, h2, and_self, if_true]
  congr 1
  cases L <;> simp [PyData.eqv, PyData.eqvAll]
theorem eqP_e0 (L : List Int) (rest : Store) : eqP (.mr 0) (.lst []) (.lst (L.map PV.int) :: rest) = some (decide (L = [])) := eqP_empty rfl
theorem mulR {x c : Int} (h1 : -2 ^ 64 < c) (h2 : c < 2 ^ 64) : MulOk x c := .inl (.inr ⟨h1, h2⟩)
theorem mulL {x c : Int} (h1 : -2 ^ 64 < c) (h2 : c < 2 ^ 64) : MulOk c x := .inl (.inl ⟨h1, h2⟩)
theorem fmod_b {x m : Int} (h : 0 < m) : 0 ≤ x.fmod m ∧ x.fmod m < m := ⟨Int.fmod_nonneg_of_pos x h, Int.fmod_lt_of_pos x h⟩
theorem max2_pos (m : Int) : (0 : Int) < (if m > 2 then m else 2) := by split <;> omega
theorem eqP_nn (rest : Store) : eqP (.mr 0) (.lst []) (.lst [] :: rest) = some true := eqP_e0 [] rest
theorem eqP_nc (I : List Int) (c : Int) (rest : Store) : eqP (.mr 0) (.lst []) (.lst (I.map PV.int ++ [.int c]) :: rest) = some false := by
  have := eqP_e0 (I ++ [c]) rest
  simpa using this
theorem last_c (xs : List PV) (y : PV) : (xs ++ [y])[(xs ++ [y]).length - 1]? = some y := by simp
theorem sIx_nat (a d n : Nat) : HT.sIx a d (some (n : Int)) = min n a := by
  unfold HT.sIx
  simp only
  rw [if_neg (by omega), Int.toNat_natCast]
theorem sIx_none (a d : Nat) : HT.sIx a d none = d := rfl
theorem cut_to (xs : List PV) (n : Nat) : cutP xs none (some (n : Int)) = xs.take n := by
  unfold cutP
  rw [sIx_none, sIx_nat, List.drop_zero, Nat.sub_zero]
  by_cases h : n ≤ xs.length
  · rw [Nat.min_eq_left h]
  · rw [Nat.min_eq_right (by omega), List.take_of_length_le (Nat.le_refl _), List.take_of_length_le (by omega)]
def ShB (d l : Nat) (x : PV) : Prop := ∃ e, datP x = some e ∧ e.showable = true ∧ e.hasDict = false ∧ e.depth ≤ d ∧ e.shown.length ≤ l
def shwP (x : PV) : Str := match datP x with | some e => e.shown | none => ""
theorem ShB.mono {d l d' l' : Nat} {x : PV} (h : ShB d l x) (h1 : d ≤ d') (h2 : l ≤ l') : ShB d' l' x :=
  let ⟨e, a, b, c, f, g⟩ := h; ⟨e, a, b, c, by omega, by omega⟩
theorem shb_int {i : Int} (h : i.natAbs < 2 ^ 1900) : ShB 0 1901 (.int i) := by
  refine ⟨.int i, rfl, ?_, by simp [PyData.hasDict], by simp [PyData.depth], ?_⟩
  · have := log_lt h
    simp only [PyData.showable, decide_eq_true_eq]
    omega
  · have := int_text_length_le10 (a := i) (k := 1900) (by decide) (Nat.lt_of_lt_of_le h (Nat.pow_le_pow_left (by decide) 1900))
    rw [PyData.shown_int, PySem.ofString_length]
    exact this
theorem shb_all {d l : Nat} : ∀ {xs : List PV}, (∀ x ∈ xs, ShB d l x) → ∃ es, datPs xs = some es ∧ PyData.showableAll es = true ∧ PyData.hasDictAll es = false ∧ PyData.depthAll es ≤ d ∧ ((PyData.shownAll es).map (·.length)).sum ≤ xs.length * l ∧ (PyData.shownAll es).length = xs.length
  | [], _ => ⟨[], rfl, by simp [PyData.showableAll], by simp [PyData.hasDictAll], by simp [PyData.depthAll], by simp [PyData.shownAll], by simp [PyData.shownAll]⟩
  | x :: xs, h => by
    obtain ⟨e, a1, a2, a3, a4, a5⟩ := h x List.mem_cons_self
    obtain ⟨es, b1, b2, b3, b4, b5, b6⟩ := shb_all fun y hy => h y (List.mem_cons_of_mem _ hy)
    refine ⟨e :: es, by simp [datPs, a1, b1], by simp [PyData.showableAll, a2, b2], by simp [PyData.hasDictAll, a3, b3], ?_, ?_, ?_⟩
    · simp only [PyData.depthAll]; omega
    · simp only [PyData.shownAll, List.map_cons, List.sum_cons, List.length_cons, Nat.add_mul, Nat.one_mul]; omega
    · simp only [PyData.shownAll, List.length_cons]; omega
theorem shb_tup {d l : Nat} {xs : List PV} (h : ∀ x ∈ xs, ShB d l x) : ShB (d + 1) (xs.length * (l + 2) + 3) (.tup xs) := by
  obtain ⟨es, b1, b2, b3, b4, b5, b6⟩ := shb_all h
  refine ⟨.tuple es, by simp [datP, b1], by simp [PyData.showable, b2], by simp [PyData.hasDict, b3], by simp only [PyData.depth]; omega, ?_⟩
  have := tupleText_len_le (PyData.shownAll es)
  show (tupleText (PyData.shownAll es)).length ≤ _
  rw [Nat.mul_add]
  rw [b6] at this
  omega
theorem shb_fr {q : Rat} (h : Sm 1900 q) : ShB 1 4000 (frP q) := by
  have := shb_tup (xs := [.int q.num, .int (q.den : Nat)]) (d := 0) (l := 1901) fun x hx => by
    rcases List.mem_cons.mp hx with rfl | hx
    · exact shb_int h.1
    · rw [List.mem_singleton.mp hx]
      exact shb_int (by rw [Int.natAbs_natCast]; exact h.2)
  exact this.mono (by decide) (by show 2 * (1901 + 2) + 3 ≤ 4000; decide)
theorem shb_tab {qs : List Rat} (h : ∀ q ∈ qs, Sm 1900 q) (hl : qs.length ≤ 8) : ShB 2 40000 (tabP qs) := by
  have := shb_tup (xs := qs.map frP) (d := 1) (l := 4000) fun x hx => by
    obtain ⟨q, hq, rfl⟩ := List.mem_map.mp hx
    exact shb_fr (h q hq)
  refine this.mono (by decide) ?_
  rw [List.length_map]
  have := Nat.mul_le_mul_right 4002 hl
  omega
theorem tab_shb {n : Nat} {qs : List Rat} (h : Tab n qs) (hn : n ≤ 1899) : ShB 2 40000 (tabP qs) := shb_tab (fun q hq => (h.sm hq).mono (by omega)) h.len
theorem pRepr_tup {xs : List PV} {d l : Nat} {μ : Store} {P : PV → Store → Prop} (h : ShB d l (.tup xs)) (hd : d ≤ 60) (hl : l ≤ lim) (hP : P (.str (shwP (.tup xs))) μ) : pRepr [.tup xs] μ P := by
  obtain ⟨e, a1, a2, a3, a4, a5⟩ := h
  have e1 : datP (frzP (.tup xs) μ) = some e := a1
  have e2 : shwP (.tup xs) = e.shown := by unfold shwP; rw [a1]
  have hs : isSeqD e = true := by
    simp only [datP] at a1
    cases z : datPs xs with
    | none => rw [z] at a1; cases a1
    | some es => rw [z] at a1; cases a1; rfl
  unfold pRepr
  simp only [e1]
  rw [e2] at hP
  exact ⟨⟨hs, a2, a3, by omega, by omega⟩, hP⟩
theorem noRefs_fr : ∀ qs : List Rat, noRefs (qs.map frP) = true
  | [] => rfl
  | q :: qs => by
    rw [List.map_cons, noRefs, noRefs_fr qs]
    rfl
theorem noRef_tab (qs : List Rat) : noRef (tabP qs) = true := noRefs_fr qs
theorem noRef_lot (ns : List Nat) : noRef (lotP ns) = true := by
  unfold lotP
  show noRefs _ = true
  induction ns with
  | nil => rfl
  | cons n ns ih => rw [List.map_cons, noRefs, ih]; rfl
def Dk (m : Int) (rest : Store) (μ : Store) : Prop := ∃ (L : List Int) (k : Int), L.length ≤ 63 ∧ μ = DS L m k rest
theorem Dk.len {m : Int} {rest μ : Store} (h : Dk m rest μ) : μ.length = rest.length + 2 := by
  obtain ⟨L, k, _, rfl⟩ := h; rfl
theorem Dk.get {m : Int} {rest μ : Store} (h : Dk m rest μ) (j : Nat) : μ[j + 2]? = rest[j]? := by
  obtain ⟨L, k, _, rfl⟩ := h; rfl
theorem Dk.app {m : Int} {rest μ : Store} (h : Dk m rest μ) (g : Store) : Dk m (rest ++ g) (μ ++ g) := by
  obtain ⟨L, k, h1, rfl⟩ := h
  exact ⟨L, k, h1, rfl⟩
theorem Dk.set {m : Int} {rest μ : Store} (h : Dk m rest μ) (j : Nat) (x : MO) : Dk m (rest.set j x) (μ.set (j + 2) x) := by
  obtain ⟨L, k, h1, rfl⟩ := h
  exact ⟨L, k, h1, rfl⟩
theorem getl {α : Type} (μ : List α) (x : α) : (μ ++ [x])[μ.length]? = some x := by simp
theorem setl {α : Type} (μ : List α) (x y : α) : (μ ++ [x]).set μ.length y = μ ++ [y] := by simp
theorem pRepr_tab {n : Nat} {qs : List Rat} {μ : Store} {P : PV → Store → Prop} (h : Tab n qs) (hn : n ≤ 1899) (hP : P (.str (shwP (tabP qs))) μ) : pRepr [tabP qs] μ P := pRepr_tup (tab_shb h hn) (by decide) (by decide) hP
theorem pRepr_fr {q : Rat} {μ : Store} {P : PV → Store → Prop} (h : Sm 1900 q) (hP : P (.str (shwP (frP q))) μ) : pRepr [frP q] μ P := pRepr_tup (shb_fr h) (by decide) (by decide) hP
theorem items_tup (xs : List PV) (μ : Store) : itemsOf (.tup xs) μ = some xs := rfl
theorem items_lst (xs : List PV) (μ : Store) : itemsOf (.lst xs) μ = some xs := rfl
theorem items_kl (xs : List PV) (μ : Store) : itemsOf (.kl xs) μ = some xs := rfl
theorem items_mr (n : Nat) (μ : Store) : itemsOf (.mr n) μ = match μ[n]? with | some (.lst xs) => some xs | _ => none := rfl
theorem items_tab (qs : List Rat) (μ : Store) : itemsOf (tabP qs) μ = some (qs.map frP) := rfl
theorem items_lot (ns : List Nat) (μ : Store) : itemsOf (lotP ns) μ = some (ns.map fun (n : Nat) => PV.int n) := rfl
theorem items_fr (q : Rat) (μ : Store) : itemsOf (frP q) μ = some [.int q.num, .int (q.den : Nat)] := rfl
theorem eqv_ints : ∀ L M : List Int, PyData.eqvAll (L.map PyData.int) (M.map PyData.int) = decide (L = M)
  | [], [] => rfl
  | [], _ :: _ => by simp [PyData.eqvAll]
  | _ :: _, [] => by simp [PyData.eqvAll]
  | x :: L, y :: M => by
    simp only [List.map_cons, PyData.eqvAll, eqv_ints L M, PyData.eqv]
    by_cases h1 : x = y <;> by_cases h2 : L = M <;> simp [h1, h2]
theorem eqP_li (L M : List Int) (μ : Store) : eqP (.lst (L.map PV.int)) (.lst (M.map PV.int)) μ = some (decide (L = M)) := by
  rw [eqP_ints, shaped_ints, shaped_ints]
  simp only [PyData.eqv, eqv_ints]
theorem eqP_bl (a b : Bool) (μ : Store) : eqP (.bl a) (.bl b) μ = some (decide (a = b)) := rfl
end Fx
namespace Fx
open PySem PySem.Spec PyProof.Rows L2 RZ MR
def zs (ns : List Nat) : List Int := ns.map fun (n : Nat) => (n : Int)
theorem while_inv {c : MT} {b : MS} {P : MEnds} {ρ : PEnv} {μ : Store} (W : Nat → PEnv → Store → Prop) {n : Nat} (h0 : W n ρ μ) (hs : ∀ n ρ μ, W n ρ μ →
    c ρ μ fun x μ1 => if x = true then b { P with nx := fun ρ' μ' => ∃ n', n' < n ∧ W n' ρ' μ', ct := fun ρ' μ' => ∃ n', n' < n ∧ W n' ρ' μ', bk := P.nx } ρ μ1 else P.nx ρ μ1) : mWhile c b P ρ μ := ⟨W, ⟨n, h0⟩, hs⟩
theorem divN (a : Int) {b n : Nat} (h0 : 0 < b) (h : b < 2 ^ n) (hn : n ≤ 8900 := by decide) : DivOk a (b : Nat) := by
  have := log_lt (x := (b : Nat)) (n := n) (by rw [Int.natAbs_natCast]; exact h)
  exact .inl ⟨by omega, by omega⟩
theorem getl2a {α : Type} (μ : List α) (x y : α) : (μ ++ [x] ++ [y])[μ.length]? = some x := by simp
theorem getl2b {α : Type} (μ : List α) (x y : α) : (μ ++ [x] ++ [y])[μ.length + 1]? = some y := by
  rw [List.getElem?_append_right (by simp)]
  simp
theorem setl2a {α : Type} (μ : List α) (x y z : α) : (μ ++ [x] ++ [y]).set μ.length z = μ ++ [z] ++ [y] := by simp
theorem setl2b {α : Type} (μ : List α) (x y z : α) : (μ ++ [x] ++ [y]).set (μ.length + 1) z = μ ++ [x] ++ [z] := by
  rw [List.set_append_right _ _ (by simp)]
  simp
theorem stm_of {a b : MS} {P : MEnds} {ρ : PEnv} {μ : Store} (h : ∀ R : PEnv → Store → Prop, R = b P → a { P with nx := R } ρ μ) : mSeq a b P ρ μ := h _ rfl
end Fx
namespace Fx
open PySem PySem.Spec PyProof.Rows L2 RZ MR
def rowsD (r : Rows) : List (Key × PV) := r.map fun p => ((.inl (p.1 : Nat) : Key), PV.int (p.2 : Nat))
section
variable {α : Type} {C : Store → Prop} {g : MG} {b : MS} {P : MEnds}
theorem forC_inv {enc : α → PV} (I : List α → PEnv → Store → Prop) (hC : ∀ pre ρ μ, I pre ρ μ → C μ) : ∀ {l done : List α} {ρ : PEnv} {μ : Store}, I done ρ μ → (∀ pre a post ρ μ, done ++ l = pre ++ a :: post → I pre ρ μ → ∀ N : PEnv → Store → Prop, (∀ ρ μ, I (pre ++ [a]) ρ μ → N ρ μ) →
      g (enc a) ρ μ fun ρ1 μ1 => b { P with nx := N, ct := N, bk := P.nx } ρ1 μ1) → (∀ ρ μ, I (done ++ l) ρ μ → P.nx ρ μ) → mForLC C g b P (l.map enc) ρ μ
  | [], done, ρ, μ, h0, _, hP => ⟨hC _ _ _ h0, hP ρ μ (by simpa using h0)⟩
  | a :: l, done, ρ, μ, h0, hs, hP => by
    have e1 : done ++ a :: l = (done ++ [a]) ++ l := by simp
    exact ⟨hC _ _ _ h0, hs done a l ρ μ rfl h0 (mForLC C g b P (l.map enc)) fun ρ μ h => forC_inv I hC (done := done ++ [a]) h (fun pre x post ρ μ e2 => hs pre x post ρ μ (by rw [e1]; exact e2)) fun ρ μ h => hP ρ μ (by rw [e1]; exact h)⟩
end
theorem set_get {μ : Store} {r : Nat} (h : r < μ.length) (z : MO) : (μ.set r z)[r]? = some z := by
  rw [List.getElem?_set_self h]
theorem app_get {μ : Store} {r : Nat} {y : MO} (h : μ[r]? = some y) (g : Store) : (μ ++ g)[r]? = some y := by
  rw [List.getElem?_append_left (List.getElem?_eq_some_iff.mp h).1]
  exact h
theorem lcC_filter {α : Type} {C : Store → Prop} {g : MG} {c : MT} {e : ME} {ρ0 : PEnv} {P : List PV → Store → Prop} {enc out : α → PV} {p : α → Bool} {μ : Store} (hC : C μ) : ∀ {l : List α} {acc : List PV}, (∀ a ∈ l, ∀ (k : PV → Store → Prop) (n : Store → Prop), (p a = true → k (out a) μ) → (p a = false → n μ) → g (enc a) ρ0 μ fun ρ1 μ1 => c ρ1 μ1 fun b μ2 => if b = true then e ρ1 μ2 k else n μ2) →
    P (acc ++ (l.filter p).map out) μ → mLcLC C g c e ρ0 P (l.map enc) acc μ
  | [], acc, _, hP => ⟨hC, by simpa using hP⟩
  | a :: l, acc, h, hP => by
    refine ⟨hC, ?_⟩
    refine h a List.mem_cons_self _ _ (fun hp => ?_) fun hp => ?_
    · refine lcC_filter hC (fun b hb => h b (List.mem_cons_of_mem _ hb)) ?_
      simpa [List.filter_cons, hp] using hP
    · refine lcC_filter hC (fun b hb => h b (List.mem_cons_of_mem _ hb)) ?_
      simpa [List.filter_cons, hp] using hP
theorem ixN_nat {n j : Nat} (h : j < n) : ixN n ((j : Nat) : Int) = some j := by
  unfold ixN
  rw [if_pos (by omega), if_pos (by omega)]
  rfl
theorem str_to : (Str.ofString "toss" = Str.ofString "out") = False := by simp only [eq_iff_iff, iff_false]; decide +kernel
theorem str_ot : (Str.ofString "out" = Str.ofString "toss") = False := by simp only [eq_iff_iff, iff_false]; decide +kernel
theorem range_split {n a : Nat} {pre post : List Nat} (h : List.range n = pre ++ a :: post) : a = pre.length ∧ pre.length < n := by
  have h1 : (List.range n)[pre.length]? = some a := by rw [h]; simp
  have h2 : pre.length < n := by
    have := congrArg List.length h
    simp at this
    omega
  rw [List.getElem?_range h2] at h1
  exact ⟨(Option.some.inj h1).symm, h2⟩
theorem noRefs_lots : ∀ L : List (List Nat), noRefs (L.map lotP) = true
  | [] => rfl
  | a :: L => by rw [List.map_cons, noRefs, noRefs_lots L, noRef_lot]; rfl
structure CountI (S : Mch) (n b j : Nat) (ks : List Nat) (p : Nat) (μ : Store) : Prop where
  fnd : μ[b + 1]? = some (.lst (ks.map .mr))
  len : ks.length = j
  end_ : ∀ (i k : Nat), ks[i]? = some k → μ[k]? = some (.lst ((List.range n).map fun x => .int (endN S x i 0 : Nat))) ∧ b + 2 ≤ k
  now : μ[p]? = some (.dk (rowsD (rowsAt S j)))
  np : b ≤ p ∧ p ≠ b + 1
theorem set_off (μ h : Store) (z : MO) : (μ ++ h).set (μ.length + 1) z = μ ++ h.set 1 z := by
  rw [List.set_append_right _ _ (by omega)]
  congr 2
  omega
theorem CountI.start (S : Mch) (n : Nat) (μ : Store) : CountI S n μ.length 0 [] μ.length (μ ++ [.dk (rowsD (rowsAt S 0)), .lst []]) := by
  refine ⟨?_, rfl, fun i k h => by simp at h, ?_, Nat.le_refl _, by omega⟩
  · rw [List.getElem?_append_right (by omega)]
    simp
  · rw [List.getElem?_append_right (by omega)]
    simp
theorem CountI.next {S : Mch} {n j p : Nat} {μ h : Store} {ks : List Nat} (hC : CountI S n μ.length j ks p (μ ++ h)) :
    CountI S n μ.length (j + 1) (ks ++ [(μ ++ h).length]) ((μ ++ h).length + 1) (μ ++ (h.set 1 (.lst (ks.map .mr ++ [.mr (μ ++ h).length])) ++ [.lst ((List.range n).map fun x => .int (endN S x j 0 : Nat)), .dk (rowsD (rowsAt S (j + 1)))])) := by
  have hl := (List.getElem?_eq_some_iff.mp hC.fnd).1
  have hl2 : 1 < h.length := by rw [List.length_append] at hl; omega
  have e : μ ++ (h.set 1 (.lst (ks.map .mr ++ [.mr (μ ++ h).length])) ++ [MO.lst ((List.range n).map fun x => .int (endN S x j 0 : Nat)), .dk (rowsD (rowsAt S (j + 1)))]) = (μ ++ h).set (μ.length + 1) (.lst (ks.map .mr ++ [.mr (μ ++ h).length])) ++ [MO.lst ((List.range n).map fun x => .int (endN S x j 0 : Nat)), .dk (rowsD (rowsAt S (j + 1)))] := by
    rw [set_off, List.append_assoc]
  rw [e]
  have hsl : ((μ ++ h).set (μ.length + 1) (.lst (ks.map .mr ++ [.mr (μ ++ h).length]))).length = (μ ++ h).length := List.length_set
  refine ⟨?_, by rw [List.length_append, hC.len]; rfl, fun i k hk => ?_, ?_, ?_⟩
  · rw [app_get (set_get hl _)]
    rw [List.map_append]
    rfl
  · by_cases hi : i < ks.length
    · rw [List.getElem?_append_left hi] at hk
      obtain ⟨h1, h2⟩ := hC.end_ i k hk
      refine ⟨?_, h2⟩
      refine app_get ?_ _
      rw [List.getElem?_set_ne (by omega)]
      exact h1
    · rw [List.getElem?_append_right (by omega)] at hk
      have hij : i = ks.length := by
        have := (List.getElem?_eq_some_iff.mp hk).1
        simp at this
        omega
      subst hij
      rw [Nat.sub_self] at hk
      have hk : (μ ++ h).length = k := by simpa using hk
      subst hk
      refine ⟨?_, by rw [List.length_append]; omega⟩
      rw [List.getElem?_append_right (by omega), hsl, Nat.sub_self, hC.len]
      rfl
  · rw [List.getElem?_append_right (by omega), hsl]
    simp
  · rw [List.length_append]
    omega
end Fx
namespace Fx
open PySem PySem.Spec PyProof.Rows L2 RZ
section
variable {P : Program} {w : World} {A : Around} {E : Value → Shared → Prop} {s : Shared}
abbrev bare (w : World) : Obj := { cls := .type "set", dict := none, data := .set #[] 0 (.fresh 0 0 (!w.params.followText "set-order")) }
end
end Fx
namespace Fx
open PySem PySem.Spec PyProof.Rows L2 RZ
section
variable {K : PySem.W.Frag}
def mSortSetL (m : ME) : ME := fun ρ μ P => m ρ μ fun x μ1 => match x with | .lst ys => (match intsP ys with | some ns => ns.length < 63 ∧ ∀ ms : List Int, ms.Pairwise (· < ·) → (∀ k : Int, k ∈ ms ↔ k ∈ ns) → P (.lst (ms.map PV.int)) μ1 | none => False) | _ => False
end
open MR
end Fx
namespace Fx
open PySem PySem.Spec PyProof.Rows L2 RZ MR
inductive PT (K : PySem.W.Frag) (H : Hp) : List V → List (Int × Int) → Prop
  | nil : PT K H [] []
  | cons {x : V} {p : Int × Int} {xs : List V} {ps : List (Int × Int)} : Dp K H x (.tuple [.int p.1, .int p.2]) → PT K H xs ps → PT K H (x :: xs) (p :: ps)
theorem PT.get {K : PySem.W.Frag} {H : Hp} : ∀ {xs : List V} {ps : List (Int × Int)} {i : Nat} {x : V}, PT K H xs ps → xs[i]? = some x → ∃ p, ps[i]? = some p ∧ Dp K H x (.tuple [.int p.1, .int p.2])
  | _, _, _, _, .nil, h => by simp at h
  | _, _, 0, _, .cons r _, h => by
    simp at h; subst h; exact ⟨_, rfl, r⟩
  | _, _, i + 1, _, .cons _ t, h => by
    obtain ⟨v, e, r⟩ := PT.get (i := i) t (by simpa using h)
    exact ⟨v, by simpa using e, r⟩
def pairsP : List PV → Option (List (Int × Int))
  | [] => some []
  | .tup [.int i, .int j] :: xs => (pairsP xs).map ((i, j) :: ·)
  | _ => none
def pMaxT (f : Int × Int → List (Int × Int) → Int × Int) : MB := fun xs μ P => match xs with | [.lst ys] => (match pairsP ys with | some (p :: ps) => P (.tup [.int (f p ps).1, .int (f p ps).2]) μ | _ => False) | _ => False
section
variable {K : PySem.W.Frag} {d : Wd} {H : Hp} {μ : Store}
end
section
variable {K : PySem.W.Frag} {d : Wd} {H : Hp} {μ : Store}
def pairV (p : Int × Int) : PV := .tup [.int p.1, .int p.2]
def lexP (p q : Int × Int) : Prop := p.1 < q.1 ∨ p.1 = q.1 ∧ p.2 ≤ q.2
def pSortT : MB := fun xs μ P => match xs with | [.lst ys] => (match pairsP ys with | some ps => ps.length < 64 ∧ (∀ p ∈ ps, 0 ≤ p.1 ∧ p.1 < 1000 ∧ 0 ≤ p.2 ∧ p.2 < 1000) ∧ ∀ qs : List (Int × Int), qs.Perm ps → qs.Pairwise lexP → P (.lst (qs.map pairV)) μ | none => False) | _ => False
end
end Fx
namespace MR
section
variable {W n m r : Nat}
end
end MR
namespace Fx
open PySem PySem.Spec PyProof.Rows L2 RZ MR
theorem fdivN (a b : Nat) : ((a : Nat) : Int).fdiv ((b : Nat) : Int) = ((a / b : Nat) : Int) := by
  rw [Int.fdiv_eq_ediv_of_nonneg _ (by omega), Int.natCast_ediv]
theorem fmodN (a b : Nat) : ((a : Nat) : Int).fmod ((b : Nat) : Int) = ((a % b : Nat) : Int) := by
  rw [Int.fmod_eq_emod_of_nonneg _ (by omega), Int.natCast_emod]
end Fx
namespace Fx
open PySem PySem.Spec PyProof.Rows L2 RZ MR
theorem cl_get {m : Int} {rest G μ : Store} (h : Dk m (rest ++ G) μ) (p : Nat) : μ[rest.length + p + 2]? = G[p]? := by
  rw [h.get, List.getElem?_append_right (by omega), show rest.length + p - rest.length = p by omega]
theorem cl_set {m : Int} {rest G μ : Store} (h : Dk m (rest ++ G) μ) (p : Nat) (x : MO) : Dk m (rest ++ G.set p x) (μ.set (rest.length + p + 2) x) := by
  have := h.set (rest.length + p) x
  rw [List.set_append_right _ _ (by omega), show rest.length + p - rest.length = p by omega] at this
  exact this
end Fx
namespace MR
def apt (a b : List Nat) : Prop := ¬ a <+: b ∧ ¬ b <+: a
theorem apt.symm {a b : List Nat} (h : apt a b) : apt b a := ⟨h.2, h.1⟩
abbrev PFW (ws : List (List Nat)) : Prop := ws.Pairwise apt
theorem PFW.perm {a b : List (List Nat)} (h : List.Perm a b) (p : PFW a) : PFW b := (h.pairwise_iff fun x => apt.symm x).mp p
theorem apt.app {a b : List Nat} (h : apt a b) (v : List Nat) : apt a (b ++ v) := by
  refine ⟨fun z => ?_, fun z => h.2 (List.IsPrefix.trans (List.prefix_append b v) z)⟩
  rcases List.prefix_or_prefix_of_prefix z (List.prefix_append b v) with y | y
  · exact h.1 y
  · exact h.2 y
theorem take_pre {a b : List Nat} : b.take a.length = a ↔ a <+: b := by
  rw [List.prefix_iff_eq_take]; exact ⟨fun h => h.symm, fun h => h.symm⟩
def tl (c : Nat) : List Nat → Option (List Nat)
  | [] => none
  | b :: t => if b = c then some t else none
def hitL (ws : List (List Nat)) (bits : List Nat) : List Nat := ((numd 0 ws).filter fun p => decide (p.2 ≠ []) && decide (bits.take p.2.length = p.2)).map (·.1)
def rdF (ws : List (List Nat)) : Nat → List Nat → List Nat × List Nat
  | 0, bits => ([], bits)
  | f + 1, bits => match hitL ws bits with
    | [] => ([], bits)
    | i :: _ => (i :: (rdF ws f (bits.drop (ws.getD i []).length)).1, (rdF ws f (bits.drop (ws.getD i []).length)).2)
def rd (ws : List (List Nat)) (bits : List Nat) : List Nat × List Nat := rdF ws bits.length bits
def spl (ws : List (List Nat)) (row : List Nat) : List Nat := row.flatMap fun i => ws.getD i []
theorem numd_at {α : Type} : ∀ {xs : List α} {j : Nat} {p : Nat × α}, p ∈ numd j xs → xs[p.1 - j]? = some p.2
  | x :: xs, j, p, h => by
    rcases List.mem_cons.mp h with rfl | h
    · simp
    · have h1 := numd_at h
      have h2 := (numd_mem h).2.1
      rw [show p.1 - j = p.1 - (j + 1) + 1 by omega, List.getElem?_cons_succ]
      exact h1
theorem numd_in {α : Type} : ∀ {xs : List α} {j i : Nat} {x : α}, xs[i]? = some x → (j + i, x) ∈ numd j xs
  | [], _, _, _, h => by simp at h
  | x :: xs, j, 0, y, h => by simp at h; subst h; exact List.mem_cons_self
  | x :: xs, j, i + 1, y, h => by
    have := numd_in (j := j + 1) (i := i) (x := y) (xs := xs) (by simpa using h)
    rw [show j + 1 + i = j + (i + 1) by omega] at this
    exact List.mem_cons_of_mem _ this
theorem hit_mem {ws : List (List Nat)} {bits : List Nat} {i : Nat} : i ∈ hitL ws bits ↔ i < ws.length ∧ ws.getD i [] ≠ [] ∧ ws.getD i [] <+: bits := by
  unfold hitL
  rw [List.mem_map]
  constructor
  · rintro ⟨p, hp, rfl⟩
    obtain ⟨h1, h2⟩ := List.mem_filter.mp hp
    have h3 := numd_at h1
    rw [Nat.sub_zero] at h3
    have h4 := (List.getElem?_eq_some_iff.mp h3).1
    rw [List.getD_eq_getElem?_getD, h3, Option.getD_some]
    simp only [Bool.and_eq_true, decide_eq_true_eq, take_pre] at h2
    exact ⟨h4, h2⟩
  · rintro ⟨h1, h2, h3⟩
    have h4 : ws[i]? = some (ws.getD i []) := by rw [List.getD_eq_getElem?_getD, List.getElem?_eq_getElem h1]; rfl
    have h5 := numd_in (j := 0) h4
    rw [Nat.zero_add] at h5
    exact ⟨_, List.mem_filter.mpr ⟨h5, by simp only [Bool.and_eq_true, decide_eq_true_eq, take_pre]; exact ⟨h2, h3⟩⟩, rfl⟩
theorem hit_drop {ws : List (List Nat)} {bits l : List Nat} {i : Nat} (h : hitL ws bits = i :: l) : i < ws.length ∧ 0 < (ws.getD i []).length ∧ (ws.getD i []).length ≤ bits.length ∧ bits = ws.getD i [] ++ bits.drop (ws.getD i []).length := by
  obtain ⟨h1, h2, h3⟩ := hit_mem.mp (by rw [h]; exact List.mem_cons_self : i ∈ hitL ws bits)
  refine ⟨h1, List.length_pos_iff.mpr h2, h3.length_le, ?_⟩
  obtain ⟨t, rfl⟩ := h3
  rw [List.drop_left]
theorem rdF_any {ws : List (List Nat)} : ∀ {f g : Nat} {bits : List Nat}, bits.length ≤ f → bits.length ≤ g → rdF ws f bits = rdF ws g bits := by
  have nil : ∀ {bits : List Nat}, bits.length = 0 → hitL ws bits = [] := by
    intro bits hb
    cases c : hitL ws bits with
    | nil => rfl
    | cons i l => have := hit_drop c; omega
  intro f
  induction f with
  | zero =>
    intro g bits h1 h2
    have e := nil (bits := bits) (by omega)
    cases g with
    | zero => rfl
    | succ g => simp only [rdF, e]
  | succ f ih =>
    intro g bits h1 h2
    cases g with
    | zero => simp only [rdF, nil (bits := bits) (by omega)]
    | succ g =>
      simp only [rdF]
      cases c : hitL ws bits with
      | nil => rfl
      | cons i l =>
        have := hit_drop c
        have e := ih (g := g) (bits := bits.drop (ws.getD i []).length) (by rw [List.length_drop]; omega) (by rw [List.length_drop]; omega)
        simp only [e]
theorem rd_nil {ws : List (List Nat)} {bits : List Nat} (h : hitL ws bits = []) : rd ws bits = ([], bits) := by
  unfold rd
  cases bits.length with
  | zero => rfl
  | succ n => simp only [rdF, h]
theorem rd_cons {ws : List (List Nat)} {bits l : List Nat} {i : Nat} (h : hitL ws bits = i :: l) : rd ws bits = (i :: (rd ws (bits.drop (ws.getD i []).length)).1, (rd ws (bits.drop (ws.getD i []).length)).2) := by
  have hd := hit_drop h
  have e : rd ws bits = rdF ws (bits.length - 1 + 1) bits := rdF_any (Nat.le_refl _) (by omega)
  rw [e]
  have e2 : rdF ws (bits.length - 1) (bits.drop (ws.getD i []).length) = rd ws (bits.drop (ws.getD i []).length) := rdF_any (by rw [List.length_drop]; omega) (Nat.le_refl _)
  simp only [rdF, h, e2]
theorem rd_ind {ws : List (List Nat)} {P : List Nat → Prop} (h0 : ∀ bits, hitL ws bits = [] → P bits) (h1 : ∀ bits i l, hitL ws bits = i :: l → P (bits.drop (ws.getD i []).length) → P bits) : ∀ bits, P bits := by
  have key : ∀ n (bits : List Nat), bits.length ≤ n → P bits := by
    intro n
    induction n with
    | zero =>
      intro bits hb
      cases c : hitL ws bits with
      | nil => exact h0 bits c
      | cons i l => have := hit_drop c; omega
    | succ n ih =>
      intro bits hb
      cases c : hitL ws bits with
      | nil => exact h0 bits c
      | cons i l =>
        have := hit_drop c
        exact h1 bits i l c (ih _ (by rw [List.length_drop]; omega))
  exact fun bits => key _ bits (Nat.le_refl _)
theorem rd_spl {ws : List (List Nat)} (bits : List Nat) : spl ws (rd ws bits).1 ++ (rd ws bits).2 = bits := by
  refine rd_ind (ws := ws) (P := fun bits => spl ws (rd ws bits).1 ++ (rd ws bits).2 = bits) (fun bits h => ?_) (fun bits i l h ih => ?_) bits
  · rw [rd_nil h]; rfl
  · rw [rd_cons h]
    simp only [spl, List.flatMap_cons] at ih ⊢
    rw [List.append_assoc, ih]
    exact (hit_drop h).2.2.2.symm
theorem rd_lt {ws : List (List Nat)} (bits : List Nat) : ∀ i ∈ (rd ws bits).1, i < ws.length := by
  refine rd_ind (ws := ws) (P := fun bits => ∀ i ∈ (rd ws bits).1, i < ws.length) (fun bits h => ?_) (fun bits i l h ih => ?_) bits
  · rw [rd_nil h]; simp
  · rw [rd_cons h]
    intro j hj
    rcases List.mem_cons.mp hj with rfl | hj
    · exact (hit_drop h).1
    · exact ih j hj
theorem rd_len {ws : List (List Nat)} (bits : List Nat) : (rd ws bits).1.length ≤ bits.length := by
  refine rd_ind (ws := ws) (P := fun bits => (rd ws bits).1.length ≤ bits.length) (fun bits h => ?_) (fun bits i l h ih => ?_) bits
  · rw [rd_nil h]; simp
  · have := hit_drop h
    rw [rd_cons h, List.length_cons]
    rw [List.length_drop] at ih
    omega
theorem mem_rd {ws : List (List Nat)} {bits : List Nat} : ∀ b ∈ (rd ws bits).2, b ∈ bits := fun b hb => by
  rw [← rd_spl (ws := ws) bits]; exact List.mem_append_right _ hb
theorem left_len {ws : List (List Nat)} {bits : List Nat} : (rd ws bits).2.length ≤ bits.length := by
  have := congrArg List.length (rd_spl (ws := ws) bits)
  rw [List.length_append] at this
  omega
end MR
namespace Fx
open PySem PySem.Spec PyProof.Rows L2 RZ MR
structure WsOk (ws : List (List Nat)) : Prop where
  ne : ws ≠ []
  len : ws.length ≤ 8
  pf : PFW ws
  bit : ∀ w ∈ ws, ∀ b ∈ w, b < 2
  sz : ∀ w ∈ ws, w.length ≤ 30
theorem WsOk.at {ws : List (List Nat)} (h : WsOk ws) {i : Nat} (hi : i < ws.length) : ws.getD i [] ∈ ws := by
  rw [List.getD_eq_getElem?_getD, List.getElem?_eq_getElem hi]; exact List.getElem_mem hi
structure RdOk (x : List Nat × List Nat) : Prop where
  a : ∀ i ∈ x.1, i < 8
  b : ∀ i ∈ x.2, i < 2
  la : x.1.length ≤ 3000
  lb : x.2.length ≤ 3000
theorem RdOk.of {ws : List (List Nat)} (h : WsOk ws) {bits : List Nat} (hb : ∀ b ∈ bits, b < 2) (hl : bits.length ≤ 3000) : RdOk (rd ws bits) :=
  ⟨fun i hi => Nat.lt_of_lt_of_le (rd_lt bits i hi) h.len, fun b hb' => hb b (mem_rd b hb'), Nat.le_trans (rd_len bits) hl, Nat.le_trans left_len hl⟩
end Fx
namespace MR
def dig (v n : Nat) : List Nat := (List.range n).map fun k => v / 2 ^ (n - 1 - k) % 2
theorem dig_len (v n : Nat) : (dig v n).length = n := by simp [dig]
theorem dig_bit (v n : Nat) : ∀ b ∈ dig v n, b < 2 := fun b hb => by
  obtain ⟨k, _, rfl⟩ := List.mem_map.mp hb
  exact Nat.mod_lt _ (by decide)
theorem dig_succ (v n : Nat) : dig v (n + 1) = dig (v / 2) n ++ [v % 2] := by
  unfold dig
  rw [List.range_succ, List.map_append]
  congr 1
  · refine List.map_congr_left fun k hk => ?_
    have hk := List.mem_range.mp hk
    rw [Nat.div_div_eq_div_mul, show n + 1 - 1 - k = (n - 1 - k) + 1 by omega, Nat.pow_succ, Nat.mul_comm 2]
  · simp
theorem dig_take (m : Nat) : ∀ (k v : Nat), (dig v (m + k)).take m = dig (v / 2 ^ k) m
  | 0, v => by rw [Nat.add_zero, List.take_of_length_le (by rw [dig_len]; exact Nat.le_refl _)]; simp
  | k + 1, v => by
    rw [← Nat.add_assoc, dig_succ, List.take_append_of_le_length (by rw [dig_len]; omega), dig_take m k, Nat.div_div_eq_div_mul, Nat.pow_succ, Nat.mul_comm 2]
theorem dig_inj : ∀ {n v w : Nat}, v < 2 ^ n → w < 2 ^ n → dig v n = dig w n → v = w
  | 0, v, w, hv, hw, _ => by simp at hv hw; omega
  | n + 1, v, w, hv, hw, e => by
    rw [dig_succ, dig_succ] at e
    obtain ⟨e1, e2⟩ := List.append_inj e (by rw [dig_len, dig_len])
    rw [Nat.pow_succ] at hv hw
    have := dig_inj (by omega) (by omega) e1
    simp at e2
    omega
def wt (p : Nat × Nat) : Nat := 2 ^ (30 - p.1)
def wsum (l : List (Nat × Nat)) : Nat := (l.map wt).sum
def plt (q p : Nat × Nat) : Prop := q.1 < p.1 ∨ q.1 = p.1 ∧ q.2 < p.2
instance (q p : Nat × Nat) : Decidable (plt q p) := by unfold plt; infer_instance
def lps (ls : List Nat) : List (Nat × Nat) := (List.range ls.length).map fun i => (ls.getD i 0, i)
def below (ls : List Nat) (p : Nat × Nat) : List (Nat × Nat) := (lps ls).filter fun q => decide (plt q p)
def cod (ls : List Nat) (p : Nat × Nat) : List Nat := dig (wsum (below ls p) / wt p) p.1
def fstW (ls : List Nat) : List (List Nat) := (lps ls).map (cod ls)
theorem getD_range (ls : List Nat) : ((List.range ls.length).map fun i => ls.getD i 0) = ls := by
  apply List.ext_getElem
  · simp
  · intro i h1 h2
    simp [List.getD_eq_getElem?_getD, List.getElem?_eq_getElem h2]
theorem lps_fst (ls : List Nat) : (lps ls).map (·.1) = ls := by
  unfold lps
  rw [List.map_map]
  exact getD_range ls
theorem lps_snd (ls : List Nat) : (lps ls).map (·.2) = List.range ls.length := by
  unfold lps
  rw [List.map_map]
  exact List.map_id' _
theorem lps_len (ls : List Nat) : (lps ls).length = ls.length := by simp [lps]
theorem lps_mem {ls : List Nat} {p : Nat × Nat} (h : p ∈ lps ls) : p.2 < ls.length ∧ p.1 = ls.getD p.2 0 := by
  obtain ⟨i, hi, rfl⟩ := List.mem_map.mp h
  exact ⟨List.mem_range.mp hi, rfl⟩
theorem lps_ex {ls : List Nat} {p q : Nat × Nat} (hp : p ∈ lps ls) (hq : q ∈ lps ls) (e : p.2 = q.2) : p = q := by
  have h1 := (lps_mem hp).2
  have h2 := (lps_mem hq).2
  exact Prod.ext (by rw [h1, h2, e]) e
theorem lps_nd (ls : List Nat) : (lps ls).Pairwise fun p q => p.2 ≠ q.2 := by
  have : ((lps ls).map (·.2)).Nodup := by rw [lps_snd]; exact List.nodup_range
  exact List.pairwise_map.mp this
theorem getD_memN {ls : List Nat} {i : Nat} (h : i < ls.length) : ls.getD i 0 ∈ ls := by
  rw [List.getD_eq_getElem?_getD, List.getElem?_eq_getElem h]; exact List.getElem_mem h
theorem lps_le {ls : List Nat} (hl : ∀ n ∈ ls, n ≤ 30) {p : Nat × Nat} (h : p ∈ lps ls) : p.1 ≤ 30 := by
  rw [(lps_mem h).2]; exact hl _ (getD_memN (lps_mem h).1)
theorem wt_pos (p : Nat × Nat) : 0 < wt p := Nat.two_pow_pos _
theorem wt_dvd {p q : Nat × Nat} (h : q.1 ≤ p.1) : wt p ∣ wt q := Nat.pow_dvd_pow 2 (by omega)
theorem plt_irr (p : Nat × Nat) : ¬ plt p p := by unfold plt; omega
theorem plt_tr {a b c : Nat × Nat} (h : plt a b) (k : plt b c) : plt a c := by unfold plt at *; omega
theorem plt_or {ls : List Nat} {p q : Nat × Nat} (hp : p ∈ lps ls) (hq : q ∈ lps ls) (hn : p ≠ q) : plt p q ∨ plt q p := by
  have : p.2 ≠ q.2 := fun e => hn (lps_ex hp hq e)
  unfold plt; omega
theorem wsum_filter (c : Nat × Nat → Bool) : ∀ l : List (Nat × Nat), wsum (l.filter c) = (l.map fun x => if c x then wt x else 0).sum
  | [] => rfl
  | x :: l => by
    have ih := wsum_filter c l
    unfold wsum at *
    by_cases h : c x = true
    · rw [List.filter_cons_of_pos h, List.map_cons, List.sum_cons, ih, List.map_cons, List.sum_cons, if_pos h]
    · rw [List.filter_cons_of_neg h, ih, List.map_cons, List.sum_cons, if_neg h]; omega
theorem sum_gap {f g : Nat × Nat → Nat} {q : Nat × Nat} {c : Nat} (h : ∀ x, f x ≤ g x) (hq : f q + c ≤ g q) : ∀ {l : List (Nat × Nat)}, q ∈ l → (l.map f).sum + c ≤ (l.map g).sum
  | x :: l, hm => by
    have hle : (l.map f).sum ≤ (l.map g).sum := by
      clear hm
      induction l with
      | nil => exact Nat.le_refl _
      | cons y l ih => simp only [List.map_cons, List.sum_cons]; have := h y; omega
    simp only [List.map_cons, List.sum_cons]
    rcases List.mem_cons.mp hm with rfl | hm
    · omega
    · have := sum_gap h hq hm
      have := h x
      omega
theorem gap {ls : List Nat} {p q : Nat × Nat} (hq : q ∈ lps ls) (h : plt q p) : wsum (below ls q) + wt q ≤ wsum (below ls p) := by
  unfold below
  rw [wsum_filter, wsum_filter]
  refine sum_gap (fun x => ?_) ?_ hq
  · by_cases c : plt x q
    · rw [if_pos (by simpa using c), if_pos (by simpa using plt_tr c h)]; exact Nat.le_refl _
    · rw [if_neg (by simpa using c)]; omega
  · rw [if_neg (by simpa using plt_irr q), if_pos (by simpa using h)]; omega
theorem gap_all {ls : List Nat} {p : Nat × Nat} (hp : p ∈ lps ls) : wsum (below ls p) + wt p ≤ wsum (lps ls) := by
  unfold below
  rw [wsum_filter]
  refine sum_gap (g := wt) (fun x => ?_) ?_ hp
  · split <;> omega
  · rw [if_neg (by simpa using plt_irr p)]; omega
theorem wsum_dvd {d : Nat} : ∀ {l : List (Nat × Nat)}, (∀ q ∈ l, d ∣ wt q) → d ∣ wsum l
  | [], _ => ⟨0, rfl⟩
  | x :: l, h => by
    unfold wsum
    rw [List.map_cons, List.sum_cons]
    exact Nat.dvd_add (h x List.mem_cons_self) (wsum_dvd fun q hq => h q (List.mem_cons_of_mem _ hq))
theorem low_dvd (ls : List Nat) (p : Nat × Nat) : wt p ∣ wsum (below ls p) := wsum_dvd fun q hq => wt_dvd (by
  have := (List.mem_filter.mp hq).2
  simp only [decide_eq_true_eq] at this
  unfold plt at this; omega)
theorem pow30 {n : Nat} (h : n ≤ 30) : 2 ^ n * 2 ^ (30 - n) = 2 ^ 30 := by rw [← Nat.pow_add]; congr 1; omega
section
variable {ls : List Nat} (hl : ∀ n ∈ ls, n ≤ 30) (hf : wsum (lps ls) ≤ 2 ^ 30)
include hl hf
theorem cod_lt {p : Nat × Nat} (hp : p ∈ lps ls) : wsum (below ls p) / wt p < 2 ^ p.1 := by
  have h := gap_all hp
  obtain ⟨v, e⟩ := low_dvd ls p
  have h30 := pow30 (lps_le hl hp)
  have h0 := wt_pos p
  rw [e, Nat.mul_div_cancel_left _ h0]
  have : wt p * (v + 1) ≤ wt p * 2 ^ p.1 := by
    rw [Nat.mul_add, Nat.mul_one, ← e, Nat.mul_comm _ (2 ^ p.1)]
    unfold wt at *
    omega
  exact Nat.le_of_mul_le_mul_left this h0
theorem cod_apt {p q : Nat × Nat} (hp : p ∈ lps ls) (hq : q ∈ lps ls) (hn : p ≠ q) : ¬ cod ls q <+: cod ls p := fun z => by
  have hlen := z.length_le
  unfold cod at z hlen
  rw [dig_len, dig_len] at hlen
  have z := List.prefix_iff_eq_take.mp z
  rw [dig_len] at z
  obtain ⟨k, hk⟩ : ∃ k, p.1 = q.1 + k := ⟨p.1 - q.1, by omega⟩
  have hp30 := lps_le hl hp
  have hcp := cod_lt hl hf hp
  have hcq := cod_lt hl hf hq
  obtain ⟨v, e⟩ := low_dvd ls p
  obtain ⟨u, e2⟩ := low_dvd ls q
  have ev : wsum (below ls p) / wt p = v := by rw [e, Nat.mul_div_cancel_left _ (wt_pos p)]
  have eu : wsum (below ls q) / wt q = u := by rw [e2, Nat.mul_div_cancel_left _ (wt_pos q)]
  rw [ev, eu, hk, dig_take] at z
  rw [ev] at hcp
  rw [eu] at hcq
  rw [hk, Nat.pow_add] at hcp
  have hz := dig_inj hcq (Nat.div_lt_of_lt_mul (by rw [Nat.mul_comm]; exact hcp)) z
  have ew : wt q = 2 ^ k * wt p := by
    unfold wt; rw [← Nat.pow_add]; congr 1; omega
  have hd := Nat.div_add_mod v (2 ^ k)
  have hm := Nat.mod_lt v (Nat.two_pow_pos k)
  rw [← hz] at hd
  have e3 : wsum (below ls q) = wt p * (2 ^ k * u) := by rw [e2, ew, Nat.mul_assoc, Nat.mul_comm (2 ^ k), Nat.mul_assoc, Nat.mul_comm u]
  have e4 : wt q = wt p * 2 ^ k := by rw [ew, Nat.mul_comm]
  have h0 := wt_pos p
  rcases plt_or hp hq hn with h | h
  · have := gap hp h
    rw [e, e3, ← Nat.mul_succ] at this
    have := Nat.le_of_mul_le_mul_left this h0
    omega
  · have := gap hq h
    rw [e, e3, e4, ← Nat.mul_add] at this
    have := Nat.le_of_mul_le_mul_left this h0
    omega
theorem fst_pf : PFW (fstW ls) := by
  unfold fstW PFW
  rw [List.pairwise_map]
  refine List.Pairwise.imp_of_mem (fun {a b} ha hb h => ?_) (lps_nd ls)
  have hn : a ≠ b := fun e => h (by rw [e])
  exact ⟨cod_apt hl hf hb ha (Ne.symm hn), cod_apt hl hf ha hb hn⟩
end
theorem fst_len (ls : List Nat) : (fstW ls).length = ls.length := by rw [fstW, List.length_map, lps_len]
theorem fst_lens (ls : List Nat) : (fstW ls).map List.length = ls := by
  unfold fstW
  rw [List.map_map]
  conv => rhs; rw [← lps_fst ls]
  refine List.map_congr_left fun p _ => ?_
  exact dig_len _ _
theorem fst_bit (ls : List Nat) : ∀ w ∈ fstW ls, ∀ b ∈ w, b < 2 := fun w hw => by
  obtain ⟨p, _, rfl⟩ := List.mem_map.mp hw
  exact dig_bit _ _
theorem fst_sz {ls : List Nat} {m : Nat} (h : ∀ n ∈ ls, n ≤ m) : ∀ w ∈ fstW ls, w.length ≤ m := fun w hw => by
  have : w.length ∈ (fstW ls).map List.length := List.mem_map.mpr ⟨w, hw, rfl⟩
  rw [fst_lens] at this
  exact h _ this
theorem wsum_perm {a b : List (Nat × Nat)} (h : a.Perm b) : wsum a = wsum b := (h.map wt).sum_nat
theorem wsum_app (a b : List (Nat × Nat)) : wsum (a ++ b) = wsum a + wsum b := by unfold wsum; rw [List.map_append, List.sum_append]
structure Row (ls : List Nat) (l : List (Nat × Nat)) : Prop where
  perm : l.Perm (lps ls)
  up : l.Pairwise plt
section
variable {ls : List Nat} {l pre post : List (Nat × Nat)} {p : Nat × Nat} (h : Row ls l) (e : l = pre ++ p :: post)
include h e
theorem Row.mem : p ∈ lps ls := h.perm.mem_iff.mp (by rw [e]; simp)
theorem Row.below : below ls p |>.Perm pre := by
  have h1 : (MR.below ls p).Perm (l.filter fun q => decide (plt q p)) := (h.perm.filter _).symm
  refine h1.trans ?_
  have hu := h.up
  rw [e] at hu
  obtain ⟨_, h2, h3⟩ := List.pairwise_append.mp hu
  obtain ⟨h4, _⟩ := List.pairwise_cons.mp h2
  have e1 : (pre.filter fun q => decide (plt q p)) = pre := List.filter_eq_self.mpr fun q hq => by simpa using h3 q hq p List.mem_cons_self
  have e2 : ((p :: post).filter fun q => decide (plt q p)) = [] := by
    rw [List.filter_eq_nil_iff]
    intro q hq
    simp only [decide_eq_true_eq]
    rcases List.mem_cons.mp hq with rfl | hq
    · exact plt_irr _
    · exact fun z => plt_irr _ (plt_tr z (h4 q hq))
  rw [e, List.filter_append, e1, e2, List.append_nil]
theorem Row.low : wsum (MR.below ls p) = wsum pre := wsum_perm (h.below e)
theorem Row.le : ∀ q ∈ pre, q.1 ≤ p.1 := fun q hq => by
  have hu := h.up
  rw [e] at hu
  have := (List.pairwise_append.mp hu).2.2 q hq p List.mem_cons_self
  unfold plt at this; omega
theorem Row.new : ∀ q ∈ pre, q.2 ≠ p.2 := fun q hq => by
  have hd : l.Pairwise fun p q => p.2 ≠ q.2 := (h.perm.pairwise_iff fun z e => z e.symm).mpr (lps_nd ls)
  rw [e] at hd
  exact (List.pairwise_append.mp hd).2.2 q hq p List.mem_cons_self
theorem Row.lst : ∀ q ∈ post, q.2 ≠ p.2 := fun q hq z => by
  have hd : l.Pairwise fun p q => p.2 ≠ q.2 := (h.perm.pairwise_iff fun z e => z e.symm).mpr (lps_nd ls)
  rw [e] at hd
  exact (List.pairwise_cons.mp (List.pairwise_append.mp hd).2.1).1 q hq z.symm
theorem Row.min : ∀ q ∈ p :: post, q = p ∨ plt p q := fun q hq => by
  rcases List.mem_cons.mp hq with rfl | hq
  · exact .inl rfl
  · have hu := h.up
    rw [e] at hu
    exact .inr ((List.pairwise_cons.mp (List.pairwise_append.mp hu).2.1).1 q hq)
theorem Row.tot : wsum pre + wt p + wsum post = wsum (lps ls) := by
  rw [← wsum_perm h.perm, e, wsum_app]
  unfold wsum
  simp only [List.map_cons, List.sum_cons]
  omega
end
end MR
namespace Fx
open PySem PySem.Spec PyProof.Rows L2 RZ MR
structure LsOk (ls : List Nat) : Prop where
  ne : ls ≠ []
  len : ls.length ≤ 8
  le : ∀ n ∈ ls, n ≤ 30
theorem LsOk.ws {ls : List Nat} (h : LsOk ls) (hf : wsum (lps ls) ≤ 2 ^ 30) : WsOk (fstW ls) where
  ne := fun z => h.ne (List.length_eq_zero_iff.mp (by rw [← fst_len, z]; rfl))
  len := by rw [fst_len]; exact h.len
  pf := fst_pf h.le hf
  bit := fst_bit ls
  sz := fst_sz h.le
end Fx
namespace MR
abbrev Mdl := List (List Rat × List Nat)
def mtab (M : Mdl) (a : Nat) : List Rat := (M.getD a ([], [])).1
def mfol (M : Mdl) (a : Nat) : List Nat := (M.getD a ([], [])).2
structure MdlOk (n : Nat) (M : Mdl) : Prop where
  ne : M ≠ []
  len : M.length ≤ 60
  n1 : 1 ≤ n
  n8 : n ≤ 8
  tab : ∀ s ∈ M, Tab 7 s.1
  ln : ∀ s ∈ M, s.1.length = n
  fl : ∀ s ∈ M, s.2.length = n
  fo : ∀ s ∈ M, ∀ f ∈ s.2, f < M.length
section
variable {n : Nat} {M : Mdl}
theorem MdlOk.mem (h : MdlOk n M) {a : Nat} (ha : a < M.length) : M.getD a ([], []) ∈ M := by
  rw [List.getD_eq_getElem?_getD, List.getElem?_eq_getElem ha]; exact List.getElem_mem ha
theorem MdlOk.t (h : MdlOk n M) {a : Nat} (ha : a < M.length) : Tab 7 (mtab M a) := h.tab _ (h.mem ha)
theorem MdlOk.tl (h : MdlOk n M) {a : Nat} (ha : a < M.length) : (mtab M a).length = n := h.ln _ (h.mem ha)
theorem MdlOk.fll (h : MdlOk n M) {a : Nat} (ha : a < M.length) : (mfol M a).length = n := h.fl _ (h.mem ha)
theorem MdlOk.f (h : MdlOk n M) {a i : Nat} (ha : a < M.length) (hi : i < n) : (mfol M a).getD i 0 < M.length := by
  refine h.fo _ (h.mem ha) _ ?_
  show (mfol M a).getD i 0 ∈ mfol M a
  have e : i < (mfol M a).length := by rw [h.fll ha]; exact hi
  rw [List.getD_eq_getElem?_getD, List.getElem?_eq_getElem e]; exact List.getElem_mem e
end
structure Iv (k : Nat) (f : Rat × Rat) : Prop where
  lo : 0 ≤ f.1
  sz : 0 ≤ f.2
  hi : f.1 + f.2 ≤ 1
  com : ∃ D : Nat, 0 < D ∧ D < 2 ^ (7 * k + 1) ∧ Cm D f.1 ∧ Cm D f.2
def Cont : Rat → List (Rat × Rat) → Rat → Prop
  | a, [], b => a = b
  | a, f :: L, b => f.1 = a ∧ 0 < f.2 ∧ Cont (a + f.2) L b
theorem Cont.app : ∀ {L K : List (Rat × Rat)} {a b c : Rat}, Cont a L b → Cont b K c → Cont a (L ++ K) c
  | [], _, _, _, _, h, k => by cases h; exact k
  | f :: L, K, a, b, c, h, k => ⟨h.1, h.2.1, Cont.app h.2.2 k⟩
theorem pow2_ne (k : Nat) : (((2 ^ k : Nat) : Int) : Rat) ≠ 0 := by
  intro e
  have := Rat.intCast_inj.mp (show (((2 ^ k : Nat) : Int) : Rat) = ((0 : Int) : Rat) from e)
  have := Nat.two_pow_pos k
  omega
theorem le_divInt {a b c d : Int} (hb : 0 < b) (hd : 0 < d) : Rat.divInt a b ≤ Rat.divInt c d ↔ a * d ≤ c * b := by
  have hb' : (0 : Rat) < (b : Rat) := Rat.intCast_pos.mpr hb
  have hd' : (0 : Rat) < (d : Rat) := Rat.intCast_pos.mpr hd
  rw [Rat.divInt_eq_div, Rat.divInt_eq_div, ← Rat.intCast_le_intCast (a := a * d), Rat.intCast_mul, Rat.intCast_mul]
  have e1 : (a : Rat) = (a : Rat) / (b : Rat) * (b : Rat) := by grind
  have e2 : (c : Rat) = (c : Rat) / (d : Rat) * (d : Rat) := by grind
  have hbd := Rat.mul_pos hb' hd'
  generalize (a : Rat) / (b : Rat) = x at *
  generalize (c : Rat) / (d : Rat) = y at *
  rw [e1, e2]
  generalize (b : Rat) = u at *
  generalize (d : Rat) = v at *
  constructor
  · intro h
    have := Rat.mul_le_mul_of_nonneg_right h (Rat.le_of_lt hbd)
    grind
  · intro h
    refine Classical.byContradiction fun hc => ?_
    have hc : y < x := by grind
    have := Rat.mul_lt_mul_of_pos_right hc hbd
    grind
theorem flat_len {α β : Type} (f : α → List β) (n : Nat) : ∀ (l : List α), (∀ a ∈ l, (f a).length ≤ n) → (l.flatMap f).length ≤ n * l.length
  | [], _ => by simp
  | a :: l, h => by
    have h1 := h a List.mem_cons_self
    have h2 := flat_len f n l fun x hx => h x (List.mem_cons_of_mem _ hx)
    rw [List.flatMap_cons, List.length_append, List.length_cons, Nat.mul_add]
    omega
end MR
namespace Fx
open PySem PySem.Spec PyProof.Rows L2 RZ MR
def LyB (d : Nat) (x : PV) : Prop := ∃ e, datP x = some e ∧ PyData.canLay0 e = true ∧ e.depth ≤ d
theorem LyB.mono {d d' : Nat} {x : PV} (h : LyB d x) (l : d ≤ d') : LyB d' x := let ⟨e, a, b, c⟩ := h; ⟨e, a, b, by omega⟩
theorem ixN_last {n : Nat} (h : 0 < n) : ixN n (-1) = some (n - 1) := by
  unfold L2.ixN
  rw [if_neg (by decide), if_pos (by omega)]
  congr 1
  omega
theorem set_map {α : Type} (f : α → PV) : ∀ (l : List α) (j : Nat) (x : α), (l.map f).set j (f x) = (l.set j x).map f
  | [], _, _ => rfl
  | a :: l, 0, x => rfl
  | a :: l, j + 1, x => by simp only [List.map_cons, List.set_cons_succ, set_map f l j x]
theorem parts_tab {n z b : Nat} {L : List Nat} (hl : L.length = n) (h1 : 1 ≤ n) (h8 : n ≤ 8) (hs : L.sum = b) (b1 : 1 ≤ b) (hb : b < 2 ^ z) : Tab z (L.map fun (p : Nat) => Rat.divInt (p : Nat) (b : Nat)) := by
  have hW : (((b : Nat) : Int) : Rat) ≠ 0 := by
    intro e
    have := Rat.intCast_inj.mp (show (((b : Nat) : Int) : Rat) = ((0 : Int) : Rat) from e)
    omega
  have hWp : (0 : Rat) < (((b : Nat) : Int) : Rat) := Rat.intCast_pos.mpr (by omega)
  have esum : ∀ l : List Nat, ((l.map fun (p : Nat) => (p : Int)).sum) = ((l.sum : Nat) : Int) := fun l => by
    induction l with
    | nil => rfl
    | cons a l ih => rw [List.map_cons, List.sum_cons, List.sum_cons, ih]; omega
  refine ⟨?_, by rw [List.length_map, hl]; exact h8, ?_, ?_, b, by omega, hb, ?_⟩
  · intro e
    have := congrArg List.length e
    rw [List.length_map, hl] at this
    simp at this
    omega
  · intro x hx
    obtain ⟨p, hp, rfl⟩ := List.mem_map.mp hx
    rw [Rat.divInt_eq_div, Rat.div_def]
    exact Rat.mul_nonneg (Rat.intCast_nonneg.mpr (by omega)) (Rat.le_of_lt (Rat.inv_pos.mpr hWp))
  · have := rsum_map (b : Nat) (L.map fun (p : Nat) => (p : Int))
    rw [List.map_map, esum, hs] at this
    exact this.trans (div_self' hW)
  · intro x hx
    obtain ⟨p, hp, rfl⟩ := List.mem_map.mp hx
    refine ⟨p, ?_⟩
    rw [Rat.divInt_eq_div, Rat.div_def, ← Rat.intCast_natCast b, Rat.mul_assoc, Rat.inv_mul_cancel _ hW, Rat.mul_one]
theorem eqP_l00 (μ : Store) : eqP (.lst []) (.lst []) μ = some true := eqP_li [] [] μ
end Fx
namespace MR
def flo (s : Nat) (q : Rat) : Nat := s * q.num.toNat / q.den
def nd (s : Nat) (t : List Rat) (i : Nat) : Nat := flo s (t.take (i + 1)).sum
def bas (w low size : Nat) : Option Nat :=
  if low + size ≤ 2 ^ (w - 1) then some 0
  else if 2 ^ (w - 1) ≤ low then some (2 ^ (w - 1))
  else if 2 ^ (w - 2) ≤ low ∧ low + size ≤ 2 ^ (w - 1) + 2 ^ (w - 2) then some (2 ^ (w - 2))
  else none
def wid (w : Nat) : Nat → Nat → Nat → Nat × Nat × List Nat
  | 0, low, size => (low, size, [])
  | f + 1, low, size => match bas w low size with
    | none => (low, size, [])
    | some b => ((wid w f (2 * (low - b)) (2 * size)).1, (wid w f (2 * (low - b)) (2 * size)).2.1, b :: (wid w f (2 * (low - b)) (2 * size)).2.2)
end MR
namespace Fx
open PySem PySem.Spec PyProof.Rows L2 RZ MR
section
variable {K : PySem.W.Frag}
end
section
variable {K : PySem.W.Frag}
end
section
variable {X : Cx} {a b c d : Expr} {ta tb tc td : TE} {pos : Pos}
end
section
variable {K : PySem.W.Frag}
end
def prt (c : Nat) (q : Rat) : Nat := q.num.toNat * c / q.den
end Fx
namespace MR
def Lie (g f : Rat × Rat) : Prop := f.1 ≤ g.1 ∧ g.1 + g.2 ≤ f.1 + f.2
instance (g f : Rat × Rat) : Decidable (Lie g f) := by unfold Lie; exact inferInstance
theorem Lie.refl (f : Rat × Rat) : Lie f f := ⟨Rat.le_refl, Rat.le_refl⟩
theorem Lie.trans {e f g : Rat × Rat} (h : Lie g f) (k : Lie f e) : Lie g e := ⟨Rat.le_trans k.1 h.1, Rat.le_trans h.2 k.2⟩
theorem le_divpow {q : Rat} {r : Int} {m : Nat} : Rat.divInt r (2 ^ m : Nat) ≤ q ↔ r * (q.den : Int) ≤ q.num * ((2 ^ m : Nat) : Int) := by
  conv => lhs; rw [← Rat.num_divInt_den q]
  exact le_divInt (by have := Nat.two_pow_pos m; omega) (by have := q.den_pos; omega)
end MR
namespace Fx
open PySem PySem.Spec PyProof.Rows L2 RZ MR
end Fx
namespace Fx
open PySem PySem.Spec PyProof.Rows L2 RZ MR
end Fx
namespace Fx
open PySem PySem.Spec PyProof.Rows L2 RZ MR
section
variable {K : PySem.W.Frag} {d : Wd} {H : Hp} {μ : Store}
end
section
variable {K : PySem.W.Frag} {d : Wd} {H : Hp} {μ : Store}
end
end Fx
namespace MR
end MR
namespace Fx
open PySem PySem.Spec PyProof.Rows L2 RZ MR
end Fx
namespace MR
structure Dgs (b : Nat) (r d : Nat → Nat) : Prop where
  pos : 0 < b
  lt : ∀ k, r k < b
  two : ∀ k, 2 * r k = d k * b + r (k + 1)
theorem Dgs.bit {b : Nat} {r d : Nat → Nat} (h : Dgs b r d) (k : Nat) : d k = 0 ∨ d k = 1 := by
  have h1 := h.lt k
  have h2 := h.two k
  rcases Nat.lt_or_ge (d k) 2 with z | z
  · omega
  · have : 2 * b ≤ d k * b := Nat.mul_le_mul_right _ z
    omega
end MR
namespace MR
end MR
namespace MR
end MR
namespace MR
end MR
namespace MR
end MR
namespace MR
theorem nat_ne {n : Nat} (h : 0 < n) : ((n : Nat) : Rat) ≠ 0 := fun z => by have z := Rat.natCast_eq_zero_iff.mp z; omega
end MR
namespace MR
theorem two_pow_ne (t : Nat) : ((2 ^ t : Nat) : Rat) ≠ 0 := nat_ne (Nat.two_pow_pos t)
def SmD (b : Nat) : Prop := 0 < b ∧ (b ≤ 1000 ∨ ∃ e, e ≤ 60 ∧ b = 2 ^ e)
theorem dvd_two : ∀ {e d : Nat}, d ∣ 2 ^ e → ∃ k, k ≤ e ∧ d = 2 ^ k
  | 0, d, h => ⟨0, Nat.le_refl _, Nat.dvd_one.mp h⟩
  | e + 1, d, h => by
    rcases Nat.mod_two_eq_zero_or_one d with z | z
    · obtain ⟨c, hc⟩ : ∃ c, d = 2 * c := ⟨d / 2, by omega⟩
      subst hc
      rw [Nat.pow_succ, Nat.mul_comm (2 ^ e) 2] at h
      obtain ⟨k, hk, rfl⟩ := dvd_two (Nat.dvd_of_mul_dvd_mul_left (by decide) h)
      exact ⟨k + 1, by omega, by rw [Nat.pow_succ, Nat.mul_comm]⟩
    · have cop : Nat.Coprime d (2 ^ (e + 1)) := by
        refine Nat.Coprime.pow_right _ ?_
        rw [Nat.coprime_comm]
        show Nat.gcd 2 d = 1
        rw [Nat.gcd_rec, z]; decide
      exact ⟨0, Nat.zero_le _, Nat.Coprime.eq_one_of_dvd cop h⟩
theorem SmD.dvd {b d : Nat} (h : SmD b) (hd : d ∣ b) : SmD d := by
  obtain ⟨h0, h⟩ := h
  have hd0 : 0 < d := Nat.pos_of_dvd_of_pos hd h0
  refine ⟨hd0, ?_⟩
  rcases h with h | ⟨e, he, rfl⟩
  · exact .inl (Nat.le_trans (Nat.le_of_dvd h0 hd) h)
  · obtain ⟨k, hk, rfl⟩ := dvd_two hd
    exact .inr ⟨k, by omega, rfl⟩
theorem SmD.lt {b : Nat} (h : SmD b) : b ≤ 2 ^ 60 := by
  rcases h.2 with h | ⟨e, he, rfl⟩
  · exact Nat.le_trans h (by decide)
  · exact Nat.pow_le_pow_right (by decide) he
end MR
namespace MR
def flr (q : Rat) (m : Nat) : Int := q.num * ((2 ^ m : Nat) : Int) / (q.den : Int)
def ent (q : Rat) (m : Nat) : Bool := decide (q.num * ((2 ^ m : Nat) : Int) % (q.den : Int) = 0)
def wth (B : List Rat) (m : Nat) : List Int := (B.filter fun q => !ent q m).map fun q => flr q m
def dst (l : List Int) : List Int := l.foldr (fun a r => if a ∈ r then r else a :: r) []
theorem dst_ok : ∀ l : List Int, (dst l).Nodup ∧ ∀ a, a ∈ dst l ↔ a ∈ l
  | [] => ⟨List.nodup_nil, fun a => Iff.rfl⟩
  | b :: l => by
    obtain ⟨h1, h2⟩ := dst_ok l
    have e : dst (b :: l) = if b ∈ dst l then dst l else b :: dst l := rfl
    rw [e]
    by_cases c : b ∈ dst l
    · rw [if_pos c]
      refine ⟨h1, fun a => ?_⟩
      rw [h2, List.mem_cons]
      refine ⟨.inr, fun q => q.elim (fun q => ?_) id⟩
      rw [q]; exact (h2 b).mp c
    · rw [if_neg c]
      refine ⟨List.nodup_cons.mpr ⟨c, h1⟩, fun a => ?_⟩
      rw [List.mem_cons, List.mem_cons, h2]
theorem nodup_le' {α : Type} [DecidableEq α] : ∀ {l m : List α}, l.Nodup → (∀ x ∈ l, x ∈ m) → l.length ≤ m.length
  | [], _, _, _ => Nat.zero_le _
  | x :: l, m, hn, hs => by
    obtain ⟨h1, h2⟩ := List.nodup_cons.mp hn
    have hx := hs x List.mem_cons_self
    have := nodup_le' h2 (m := m.erase x) fun y hy => by
      have hne : y ≠ x := fun z => h1 (z ▸ hy)
      exact (List.mem_erase_of_ne hne).mpr (hs y (List.mem_cons_of_mem _ hy))
    rw [List.length_erase_of_mem hx] at this
    have := List.length_pos_of_mem hx
    rw [List.length_cons]
    omega
def und (B : List Rat) (m : Nat) : Nat := (dst (wth B m)).length
theorem flr_iff {q : Rat} {m : Nat} {r : Int} : r ≤ flr q m ↔ Rat.divInt r (2 ^ m : Nat) ≤ q := by
  have hd : (0 : Int) < (q.den : Int) := by have := q.den_pos; omega
  rw [le_divpow]
  exact Int.le_ediv_iff_mul_le hd
theorem flr_mono {p q : Rat} (h : p ≤ q) (m : Nat) : flr p m ≤ flr q m := flr_iff.mpr (Rat.le_trans (flr_iff.mp (Int.le_refl _)) h)
theorem flr_double (q : Rat) (m : Nat) : flr q (m + 1) / 2 = flr q m := by
  have hd : (0 : Int) < (q.den : Int) := by have := q.den_pos; omega
  unfold flr
  rw [Int.ediv_ediv_of_nonneg (by omega), Int.mul_comm (q.den : Int) 2, ← Int.ediv_ediv_of_nonneg (by decide)]
  congr 1
  rw [Nat.pow_succ, Int.natCast_mul, ← Int.mul_assoc]
  exact Int.mul_ediv_cancel _ (by decide)
theorem ent_succ {q : Rat} {m : Nat} (h : ent q m = true) : ent q (m + 1) = true := by
  unfold ent at *
  rw [decide_eq_true_eq] at *
  rw [Nat.pow_succ, Int.natCast_mul, ← Int.mul_assoc, Int.mul_emod, h, Int.zero_mul, Int.zero_emod]
theorem flr_one (m : Nat) : flr 1 m = ((2 ^ m : Nat) : Int) := by
  unfold flr
  have e1 : (1 : Rat).num = 1 := rfl
  have e2 : (1 : Rat).den = 1 := rfl
  rw [e1, e2, Int.one_mul]
  exact Int.ediv_one _
def pw2 (n : Nat) : Bool := decide (n &&& (n - 1) = 0)
def ends (B : List Rat) : Nat := (B.filter fun q => !pw2 q.den).length
theorem pw2_iff {n : Nat} (h : 0 < n) : pw2 n = true ↔ ∃ e, n = 2 ^ e := by
  unfold pw2
  rw [decide_eq_true_eq]
  exact Nat.and_sub_one_eq_zero_iff_isPowerOfTwo (by omega)
theorem ent_pw2 {q : Rat} {m : Nat} (h : ent q m = true) : pw2 q.den = true := by
  unfold ent at h
  rw [decide_eq_true_eq] at h
  have h1 : (q.den : Int) ∣ q.num * ((2 ^ m : Nat) : Int) := Int.dvd_of_emod_eq_zero h
  have h2 : q.den ∣ q.num.natAbs * 2 ^ m := by
    have := Int.natAbs_dvd_natAbs.mpr h1
    rwa [Int.natAbs_natCast, Int.natAbs_mul, Int.natAbs_natCast] at this
  have h3 : q.den ∣ 2 ^ m := Nat.Coprime.dvd_of_dvd_mul_left (Nat.Coprime.symm q.reduced) h2
  obtain ⟨k, _, e⟩ := dvd_two h3
  exact (pw2_iff q.den_pos).mpr ⟨k, e⟩
def Cln (B : List Rat) (m : Nat) : Prop := (wth B m).length = und B m ∧ und B m = ends B
theorem filter_sub {α : Type} {p q : α → Bool} (h : ∀ a, p a = true → q a = true) : ∀ l : List α, (l.filter p).length ≤ (l.filter q).length
  | [] => Nat.le_refl _
  | a :: l => by
    have ih := filter_sub h l
    rw [List.filter_cons, List.filter_cons]
    by_cases c : p a = true
    · rw [if_pos c, if_pos (h a c)]; simpa using ih
    · rw [if_neg c]
      split
      · rw [List.length_cons]; omega
      · exact ih
theorem ends_le (B : List Rat) (m : Nat) : ends B ≤ (wth B m).length := by
  unfold ends wth
  rw [List.length_map]
  refine filter_sub (fun q h => ?_) B
  cases c : ent q m with
  | false => rfl
  | true => rw [ent_pw2 c] at h; exact h
theorem wth_le (B : List Rat) (m : Nat) : (wth B (m + 1)).length ≤ (wth B m).length := by
  unfold wth
  rw [List.length_map, List.length_map]
  refine filter_sub (fun q h => ?_) B
  cases c : ent q m with
  | false => rfl
  | true => rw [ent_succ c] at h; exact h
theorem dst_len {l : List Int} (h : (dst l).length = l.length) : l.Nodup := by
  induction l with
  | nil => exact List.nodup_nil
  | cons a l ih =>
    have e : dst (a :: l) = if a ∈ dst l then dst l else a :: dst l := rfl
    rw [e] at h
    have hle : (dst l).length ≤ l.length := nodup_le' (dst_ok l).1 fun x hx => ((dst_ok l).2 x).mp hx
    by_cases c : a ∈ dst l
    · rw [if_pos c, List.length_cons] at h; omega
    · rw [if_neg c, List.length_cons, List.length_cons] at h
      exact List.nodup_cons.mpr ⟨fun q => c (((dst_ok l).2 a).mpr q), ih (by omega)⟩
theorem nodup_dst {l : List Int} (h : l.Nodup) : (dst l).length = l.length :=
  Nat.le_antisymm (nodup_le' (dst_ok l).1 fun x hx => ((dst_ok l).2 x).mp hx) (nodup_le' h fun x hx => ((dst_ok l).2 x).mpr hx)
theorem nodup_wth {B : List Rat} {m : Nat} (h : (wth B m).Nodup) : (wth B (m + 1)).Nodup := by
  have hs : (B.filter fun q => !ent q (m + 1)).Sublist (B.filter fun q => !ent q m) := by
    have e : (B.filter fun q => !ent q (m + 1)) = (B.filter fun q => !ent q m).filter fun q => !ent q (m + 1) := by
      rw [List.filter_filter]
      refine List.filter_congr fun q _ => ?_
      cases c : ent q m with
      | false => simp
      | true => rw [ent_succ c]; rfl
    rw [e]
    exact List.filter_sublist
  have h1 : ((B.filter fun q => !ent q (m + 1)).map fun q => flr q m).Nodup := h.sublist (hs.map _)
  have h2 : (B.filter fun q => !ent q (m + 1)).Pairwise fun a b => flr a m ≠ flr b m := List.pairwise_map.mp h1
  refine List.pairwise_map.mpr (h2.imp fun {a b} n e => n ?_)
  rw [← flr_double, ← flr_double b, e]
theorem Cln.succ {B : List Rat} {m : Nat} (h : Cln B m) : Cln B (m + 1) := by
  obtain ⟨h1, h2⟩ := h
  have hn := nodup_wth (dst_len h1.symm)
  have e1 : und B (m + 1) = (wth B (m + 1)).length := nodup_dst hn
  have a1 := ends_le B (m + 1)
  have a2 := wth_le B m
  exact ⟨e1.symm, by omega⟩
def tot (B : List Rat) : Nat → Rat
  | 0 => 0
  | m + 1 => tot B m + Rat.divInt (und B m : Nat) ((2 ^ m : Nat) : Int)
def tlE (B : List Rat) (m : Nat) : Rat := Rat.divInt ((2 * ends B : Nat) : Int) ((2 ^ m : Nat) : Int)
theorem divpow (a m : Nat) : Rat.divInt (a : Int) ((2 ^ m : Nat) : Int) = (a : Rat) / ((2 ^ m : Nat) : Rat) := by
  rw [Rat.divInt_eq_div]
  rfl
theorem Cln.step {B : List Rat} {m : Nat} (h : Cln B m) : tot B (m + 1) + tlE B (m + 1) = tot B m + tlE B m := by
  show tot B m + Rat.divInt (und B m : Nat) ((2 ^ m : Nat) : Int) + tlE B (m + 1) = tot B m + tlE B m
  rw [h.2]
  unfold tlE
  rw [divpow, divpow, divpow]
  have h1 := two_pow_ne m
  have e1 : ((2 ^ (m + 1) : Nat) : Rat) = ((2 ^ m : Nat) : Rat) * 2 := by rw [Nat.pow_succ, Rat.natCast_mul]; rfl
  have e2 : ((2 * ends B : Nat) : Rat) = 2 * ((ends B : Nat) : Rat) := by rw [Rat.natCast_mul]; rfl
  rw [e1, e2]
  grind
theorem Cln.more {B : List Rat} {m : Nat} (h : Cln B m) : ∀ j, Cln B (m + j) ∧ tot B (m + j) + tlE B (m + j) = tot B m + tlE B m
  | 0 => ⟨h, rfl⟩
  | j + 1 => by
    obtain ⟨h1, h2⟩ := Cln.more h j
    exact ⟨h1.succ, by rw [← h2]; exact h1.step⟩
theorem Cln.any {B : List Rat} {m n : Nat} (h : Cln B m) (k : Cln B n) : tot B m + tlE B m = tot B n + tlE B n := by
  rcases Nat.le_total m n with c | c
  · obtain ⟨j, rfl⟩ := Nat.exists_eq_add_of_le c
    exact (h.more j).2.symm
  · obtain ⟨j, rfl⟩ := Nat.exists_eq_add_of_le c
    exact (k.more j).2
end MR
namespace MR
structure Nrw (K : Nat) (B : List Rat) : Prop where
  asc : B.Pairwise (· < ·)
  mem : ∀ q ∈ B, 0 < q ∧ q < 1
  den : ∀ q ∈ B, q.den < 2 ^ K
theorem gap_pos {p q : Rat} (h : p < q) : 1 ≤ q.num * p.den - p.num * q.den := by
  have := (Rat.lt_iff p q).mp h
  omega
theorem zip_tail {B : List Rat} (h : B.Pairwise (· < ·)) : ∀ p ∈ B.zip B.tail, p.1 < p.2 ∧ p.1 ∈ B ∧ p.2 ∈ B := by
  intro p hp
  cases B with
  | nil => cases hp
  | cons a B =>
    have hm := List.of_mem_zip (a := p.1) (b := p.2) hp
    refine ⟨?_, hm.1, List.mem_cons_of_mem _ hm.2⟩
    clear hm
    rw [List.tail_cons] at hp
    induction B generalizing a with
    | nil => cases hp
    | cons b B ih =>
      rw [List.zip_cons_cons] at hp
      rcases List.mem_cons.mp hp with rfl | hp
      · exact (List.pairwise_cons.mp h).1 _ List.mem_cons_self
      · exact ih b (List.pairwise_cons.mp h).2 hp
theorem Nrw.gap {K : Nat} {B : List Rat} (h : Nrw K B) {m : Nat} (hm : 2 * K + 1 ≤ m) : ∀ p ∈ B.zip B.tail, (2 * p.1.den * p.2.den : Nat) ≤ (p.2.num * p.1.den - p.1.num * p.2.den) * ((2 ^ m : Nat) : Int) := by
  intro p hp
  obtain ⟨h1, h2, h3⟩ := zip_tail h.asc p hp
  have g := gap_pos h1
  have d1 := h.den _ h2
  have d2 := h.den _ h3
  have a1 : p.1.den * p.2.den ≤ 2 ^ K * 2 ^ K := Nat.mul_le_mul (by omega) (by omega)
  have a2 : 2 ^ (2 * K + 1) ≤ 2 ^ m := Nat.pow_le_pow_right (by decide) hm
  have a3 : 2 ^ (2 * K + 1) = 2 ^ K * 2 ^ K * 2 := by rw [Nat.pow_succ, Nat.two_mul, Nat.pow_add]
  have a4 : 2 * p.1.den * p.2.den ≤ 2 ^ m := by rw [Nat.mul_assoc]; omega
  refine Int.le_trans (Int.ofNat_le.mpr a4) ?_
  have := Int.mul_le_mul_of_nonneg_right g (show (0 : Int) ≤ ((2 ^ m : Nat) : Int) by omega)
  rw [Int.one_mul] at this
  exact this
end MR
namespace MR
end MR
namespace MR
def rsd (q : Rat) (t : Nat) : Rat := q * ((2 ^ t : Nat) : Rat) - ((flr q t : Int) : Rat)
theorem p2_pos (t : Nat) : (0 : Rat) < ((2 ^ t : Nat) : Rat) := by exact_mod_cast Nat.two_pow_pos t
theorem dv_cast (a : Int) (t : Nat) : Rat.divInt a (2 ^ t : Nat) * ((2 ^ t : Nat) : Rat) = (a : Rat) := by
  have h := pow2_ne t
  have e : (((2 ^ t : Nat) : Int) : Rat) = ((2 ^ t : Nat) : Rat) := rfl
  rw [Rat.divInt_eq_div, e]
  rw [e] at h
  exact Rat.div_mul_cancel h
theorem rsd_bd (q : Rat) (t : Nat) : 0 ≤ rsd q t ∧ rsd q t < 1 := by
  have hP := p2_pos t
  have h1 : Rat.divInt (flr q t) (2 ^ t : Nat) ≤ q := flr_iff.mp (Int.le_refl _)
  have h2 : ¬ Rat.divInt (flr q t + 1) (2 ^ t : Nat) ≤ q := fun z => by have := flr_iff.mpr z; omega
  have h2 := Rat.not_le.mp h2
  have a1 := Rat.mul_le_mul_of_nonneg_right h1 (Rat.le_of_lt hP)
  have a2 := Rat.mul_lt_mul_of_pos_right h2 hP
  rw [dv_cast] at a1 a2
  rw [Rat.intCast_add] at a2
  have e1 : ((1 : Int) : Rat) = 1 := rfl
  rw [e1] at a2
  unfold rsd
  constructor <;> grind
def NrI (t : Nat) (θ q p : Rat) : Prop :=
  (p * ((2 ^ t : Nat) : Rat) = ((flr q t : Int) : Rat) ∧ rsd q t ≤ θ) ∨ (p * ((2 ^ t : Nat) : Rat) = ((flr q t + 1 : Int) : Rat) ∧ θ ≤ rsd q t)
def Whl (t : Nat) (p : Rat) : Prop := ∃ k : Int, p * ((2 ^ t : Nat) : Rat) = (k : Rat)
theorem c1I : ((1 : Int) : Rat) = 1 := rfl
theorem absN {q p : Rat} {t : Nat} : rab (q - p) * ((2 ^ t : Nat) : Rat) = rab (q * ((2 ^ t : Nat) : Rat) - p * ((2 ^ t : Nat) : Rat)) := by
  have e : q * ((2 ^ t : Nat) : Rat) - p * ((2 ^ t : Nat) : Rat) = ((2 ^ t : Nat) : Rat) * (q - p) := by grind
  rw [e, rab_mul (Rat.le_of_lt (p2_pos t)), Rat.mul_comm]
theorem int_ge {d e : Int} (h : d < e) : (d : Rat) + 1 ≤ (e : Rat) := by
  have h2 : d + 1 ≤ e := h
  have := Rat.intCast_le_intCast.mpr h2
  rw [Rat.intCast_add, c1I] at this
  exact this
theorem abs_parts {f r : Rat} {k c : Int} (hf : f = ((c : Int) : Rat)) (r0 : 0 ≤ r) (r1 : r < 1) : (k ≤ c ∧ (k : Rat) ≤ f ∧ rab (f + r - (k : Rat)) = f + r - (k : Rat)) ∨ (c < k ∧ f + 1 ≤ (k : Rat) ∧ rab (f + r - (k : Rat)) = (k : Rat) - f - r) := by
  subst hf
  rcases Int.lt_or_le c k with h | h
  · have := int_ge h
    refine .inr ⟨h, this, ?_⟩
    unfold rab
    rw [if_pos (by grind)]
    grind
  · have := Rat.intCast_le_intCast.mpr h
    refine .inl ⟨h, this, ?_⟩
    unfold rab
    rw [if_neg (by grind)]
theorem item_le {t : Nat} {θ q p o : Rat} (h0 : 0 ≤ θ) (h1 : θ ≤ 1) (hp : NrI t θ q p) (ho : Whl t o) :
    rab (q - p) * ((2 ^ t : Nat) : Rat) - (1 - 2 * θ) * (p * ((2 ^ t : Nat) : Rat)) ≤ rab (q - o) * ((2 ^ t : Nat) : Rat) - (1 - 2 * θ) * (o * ((2 ^ t : Nat) : Rat)) ∧
    (0 < θ → θ < 1 → rab (q - p) * ((2 ^ t : Nat) : Rat) - (1 - 2 * θ) * (p * ((2 ^ t : Nat) : Rat)) = rab (q - o) * ((2 ^ t : Nat) : Rat) - (1 - 2 * θ) * (o * ((2 ^ t : Nat) : Rat)) → NrI t θ q o) := by
  obtain ⟨k, hk⟩ := ho
  obtain ⟨r0, r1⟩ := rsd_bd q t
  rw [absN, absN]
  have hx : q * ((2 ^ t : Nat) : Rat) = ((flr q t : Int) : Rat) + rsd q t := by unfold rsd; grind
  rw [hx]
  unfold NrI at *
  rw [Rat.intCast_add, c1I] at *
  rw [hk]
  generalize p * ((2 ^ t : Nat) : Rat) = u at *
  have hA := abs_parts (f := ((flr q t : Int) : Rat)) (r := rsd q t) (k := k) (c := flr q t) rfl r0 r1
  generalize rsd q t = r at *
  generalize ((flr q t : Int) : Rat) = f at *
  have e0 : rab (f + r - f) = r := by unfold rab; rw [if_neg (by grind)]; grind
  have e1 : rab (f + r - (f + 1)) = 1 - r := by unfold rab; rw [if_pos (by grind)]; grind
  rcases hA with ⟨c, c1, c2⟩ | ⟨c, c1, c2⟩
  · rw [c2]
    have m1 : 0 ≤ (1 - θ) * (f - (k : Rat)) := Rat.mul_nonneg (by grind) (by grind)
    have z1 : 0 < θ → θ < 1 → (1 - θ) * (f - (k : Rat)) ≤ 0 → (k : Rat) = f := fun _ t1 h => by
      refine Classical.byContradiction fun hne => ?_
      have := Rat.mul_pos (show 0 < 1 - θ by grind) (show 0 < f - (k : Rat) by grind)
      grind
    generalize (k : Rat) = x at *
    rcases hp with ⟨rfl, hp⟩ | ⟨rfl, hp⟩
    · rw [e0]
      refine ⟨by grind, fun t0 t1 h => ?_⟩
      have := z1 t0 t1 (by grind)
      exact .inl ⟨this, hp⟩
    · rw [e1]
      refine ⟨by grind, fun t0 t1 h => ?_⟩
      have := z1 t0 t1 (by grind)
      exact .inl ⟨this, by grind⟩
  · rw [c2]
    have m1 : 0 ≤ θ * ((k : Rat) - f - 1) := Rat.mul_nonneg h0 (by grind)
    have z1 : 0 < θ → θ < 1 → θ * ((k : Rat) - f - 1) ≤ 0 → (k : Rat) = f + 1 := fun t0 _ h => by
      refine Classical.byContradiction fun hne => ?_
      have := Rat.mul_pos t0 (show 0 < (k : Rat) - f - 1 by grind)
      grind
    generalize (k : Rat) = x at *
    rcases hp with ⟨rfl, hp⟩ | ⟨rfl, hp⟩
    · rw [e0]
      refine ⟨by grind, fun t0 t1 h => ?_⟩
      have := z1 t0 t1 (by grind)
      exact .inr ⟨this, by grind⟩
    · rw [e1]
      refine ⟨by grind, fun t0 t1 h => ?_⟩
      have := z1 t0 t1 (by grind)
      exact .inr ⟨this, hp⟩
abbrev Tri := Rat × Rat × Rat
def cst (t : Nat) (f : Tri → Rat) (l : List Tri) : Rat := (l.map fun x => rab (x.1 - f x) * ((2 ^ t : Nat) : Rat)).sum
def prt (t : Nat) (f : Tri → Rat) (l : List Tri) : Rat := (l.map fun x => f x * ((2 ^ t : Nat) : Rat)).sum
theorem all_le {t : Nat} {θ : Rat} (h0 : 0 ≤ θ) (h1 : θ ≤ 1) : ∀ {l : List Tri}, (∀ x ∈ l, NrI t θ x.1 x.2.1 ∧ Whl t x.2.2) → cst t (·.2.1) l - (1 - 2 * θ) * prt t (·.2.1) l ≤ cst t (·.2.2) l - (1 - 2 * θ) * prt t (·.2.2) l
  | [], _ => Rat.le_refl
  | x :: l, h => by
    have ih := all_le h0 h1 fun y hy => h y (List.mem_cons_of_mem _ hy)
    obtain ⟨a, b⟩ := h x List.mem_cons_self
    have := (item_le h0 h1 a b).1
    unfold cst prt at *
    simp only [List.map_cons, List.sum_cons]
    grind
theorem all_eq {t : Nat} {θ : Rat} (h0 : 0 < θ) (h1 : θ < 1) : ∀ {l : List Tri}, (∀ x ∈ l, NrI t θ x.1 x.2.1 ∧ Whl t x.2.2) → cst t (·.2.1) l - (1 - 2 * θ) * prt t (·.2.1) l = cst t (·.2.2) l - (1 - 2 * θ) * prt t (·.2.2) l → ∀ x ∈ l, NrI t θ x.1 x.2.2
  | [], _, _ => by simp
  | x :: l, h, e => by
    have ih := all_le (t := t) (Rat.le_of_lt h0) (Rat.le_of_lt h1) fun y hy => h y (List.mem_cons_of_mem _ hy)
    obtain ⟨a, b⟩ := h x List.mem_cons_self
    have h2 := item_le (Rat.le_of_lt h0) (Rat.le_of_lt h1) a b
    have ihe := all_eq (t := t) h0 h1 fun y hy => h y (List.mem_cons_of_mem _ hy)
    unfold cst prt at *
    simp only [List.map_cons, List.sum_cons] at e
    intro y hy
    rcases List.mem_cons.mp hy with rfl | hy
    · exact h2.2 h0 h1 (by grind)
    · exact ihe (by grind) y hy
theorem item_max {t : Nat} {θ q p o A : Rat} (hp : NrI t θ q p) (ho : Whl t o) (hA : rab (q - o) * ((2 ^ t : Nat) : Rat) < A) :
    (A ≤ 1 → A + θ ≤ 1 → o * ((2 ^ t : Nat) : Rat) ≤ p * ((2 ^ t : Nat) : Rat)) ∧ (A ≤ 1 → A ≤ θ → p * ((2 ^ t : Nat) : Rat) ≤ o * ((2 ^ t : Nat) : Rat)) := by
  obtain ⟨k, hk⟩ := ho
  obtain ⟨r0, r1⟩ := rsd_bd q t
  rw [absN] at hA
  have hx : q * ((2 ^ t : Nat) : Rat) = ((flr q t : Int) : Rat) + rsd q t := by unfold rsd; grind
  rw [hx, hk] at hA
  rw [hk]
  unfold NrI at hp
  rw [Rat.intCast_add, c1I] at hp
  have hB := abs_parts (f := ((flr q t : Int) : Rat)) (r := rsd q t) (k := k) (c := flr q t) rfl r0 r1
  have hge : flr q t + 1 < k → ((flr q t : Int) : Rat) + 1 + 1 ≤ (k : Rat) := fun h => by
    have := int_ge h
    rw [Rat.intCast_add, c1I] at this
    exact this
  have hle : k < flr q t → (k : Rat) + 1 ≤ ((flr q t : Int) : Rat) := fun h => int_ge h
  have heq : k = flr q t → (k : Rat) = ((flr q t : Int) : Rat) := fun h => by rw [h]
  have heq1 : k = flr q t + 1 → (k : Rat) = ((flr q t : Int) : Rat) + 1 := fun h => by rw [h, Rat.intCast_add, c1I]
  generalize p * ((2 ^ t : Nat) : Rat) = u at *
  generalize rsd q t = r at *
  generalize ((flr q t : Int) : Rat) = f at *
  refine ⟨fun a1 a2 => ?_, fun a1 a2 => ?_⟩
  · rcases hB with ⟨c, c1, c2⟩ | ⟨c, c1, c2⟩
    · rcases hp with ⟨rfl, hp⟩ | ⟨rfl, hp⟩ <;> grind
    · rw [c2] at hA
      rcases hp with ⟨rfl, hp⟩ | ⟨rfl, hp⟩
      · grind
      · rcases Int.lt_or_le (flr q t + 1) k with h | h
        · have := hge h; grind
        · have := heq1 (by omega); grind
  · rcases hB with ⟨c, c1, c2⟩ | ⟨c, c1, c2⟩
    · rw [c2] at hA
      rcases hp with ⟨rfl, hp⟩ | ⟨rfl, hp⟩
      · rcases Int.lt_or_le k (flr q t) with h | h
        · have := hle h; grind
        · have := heq (by omega); grind
      · grind
    · rcases hp with ⟨rfl, hp⟩ | ⟨rfl, hp⟩ <;> grind
theorem nri_abs {t : Nat} {θ q p : Rat} (hp : NrI t θ q p) : (rab (q - p) * ((2 ^ t : Nat) : Rat) = rsd q t ∧ rsd q t ≤ θ ∧ p * ((2 ^ t : Nat) : Rat) = ((flr q t : Int) : Rat)) ∨ (rab (q - p) * ((2 ^ t : Nat) : Rat) = 1 - rsd q t ∧ θ ≤ rsd q t ∧ p * ((2 ^ t : Nat) : Rat) = ((flr q t : Int) : Rat) + 1) := by
  obtain ⟨r0, r1⟩ := rsd_bd q t
  have hx : q * ((2 ^ t : Nat) : Rat) = ((flr q t : Int) : Rat) + rsd q t := by unfold rsd; grind
  unfold NrI at hp
  rw [Rat.intCast_add, c1I] at hp
  rw [absN, hx]
  generalize p * ((2 ^ t : Nat) : Rat) = u at *
  generalize rsd q t = r at *
  generalize ((flr q t : Int) : Rat) = f at *
  have e0 : rab (f + r - f) = r := by unfold rab; rw [if_neg (by grind)]; grind
  have e1 : rab (f + r - (f + 1)) = 1 - r := by unfold rab; rw [if_pos (by grind)]; grind
  rcases hp with ⟨rfl, hp⟩ | ⟨rfl, hp⟩
  · exact .inl ⟨e0, hp, rfl⟩
  · exact .inr ⟨e1, hp, rfl⟩
theorem prt_lt {t : Nat} {f g : Tri → Rat} : ∀ {l : List Tri}, (∀ x ∈ l, f x * ((2 ^ t : Nat) : Rat) ≤ g x * ((2 ^ t : Nat) : Rat)) → (∃ x ∈ l, f x * ((2 ^ t : Nat) : Rat) < g x * ((2 ^ t : Nat) : Rat)) → prt t f l < prt t g l
  | [], _, h => by obtain ⟨x, hx, _⟩ := h; cases hx
  | y :: l, h, hx => by
    have hle : ∀ l : List Tri, (∀ x ∈ l, f x * ((2 ^ t : Nat) : Rat) ≤ g x * ((2 ^ t : Nat) : Rat)) → prt t f l ≤ prt t g l := fun l => by
      induction l with
      | nil => intro _; exact Rat.le_refl
      | cons z l ih =>
        intro h
        have h1 := ih fun x hx => h x (List.mem_cons_of_mem _ hx)
        have h2 := h z List.mem_cons_self
        unfold prt at *
        simp only [List.map_cons, List.sum_cons]
        grind
    have h2 := h y List.mem_cons_self
    obtain ⟨x, hx, hlt⟩ := hx
    rcases List.mem_cons.mp hx with rfl | hx
    · have h1 := hle l fun z hz => h z (List.mem_cons_of_mem _ hz)
      unfold prt at *
      simp only [List.map_cons, List.sum_cons]
      grind
    · have h1 := prt_lt (l := l) (fun z hz => h z (List.mem_cons_of_mem _ hz)) ⟨x, hx, hlt⟩
      unfold prt at *
      simp only [List.map_cons, List.sum_cons]
      grind
theorem all_max {t : Nat} {θ : Rat} {l : List Tri} (h : ∀ x ∈ l, NrI t θ x.1 x.2.1 ∧ Whl t x.2.2) (hs : prt t (·.2.1) l = prt t (·.2.2) l) {x : Tri} (hx : x ∈ l) : ∃ y ∈ l, rab (x.1 - x.2.1) ≤ rab (y.1 - y.2.2) := by
  refine Classical.byContradiction fun hc => ?_
  have hlt : ∀ y ∈ l, rab (y.1 - y.2.2) * ((2 ^ t : Nat) : Rat) < rab (x.1 - x.2.1) * ((2 ^ t : Nat) : Rat) := fun y hy => by
    refine Rat.mul_lt_mul_of_pos_right (Rat.not_le.mp fun z => hc ⟨y, hy, z⟩) (p2_pos t)
  obtain ⟨r0, r1⟩ := rsd_bd x.1 t
  rcases nri_abs (h x hx).1 with ⟨a1, a2, a3⟩ | ⟨a1, a2, a3⟩
  · rw [a1] at hlt
    have := prt_lt (t := t) (f := (·.2.1)) (g := (·.2.2)) (l := l) (fun y hy => (item_max (h y hy).1 (h y hy).2 (hlt y hy)).2 (by grind) a2) ⟨x, hx, by
      have h1 := (item_max (h x hx).1 (h x hx).2 (hlt x hx)).2 (by grind) a2
      refine Rat.lt_of_le_of_ne h1 fun e => ?_
      have h2 := hlt x hx
      rw [absN, ← e, ← absN, a1] at h2
      exact absurd h2 (by grind)⟩
    grind
  · rw [a1] at hlt
    have := prt_lt (t := t) (f := (·.2.2)) (g := (·.2.1)) (l := l) (fun y hy => (item_max (h y hy).1 (h y hy).2 (hlt y hy)).1 (by grind) (by grind)) ⟨x, hx, by
      have h1 := (item_max (h x hx).1 (h x hx).2 (hlt x hx)).1 (by grind) (by grind)
      refine Rat.lt_of_le_of_ne h1 fun e => ?_
      have h2 := hlt x hx
      rw [absN, e, ← absN, a1] at h2
      exact absurd h2 (by grind)⟩
    grind
theorem zip3_a : ∀ {a b c : List Rat}, b.length = a.length → c.length = a.length → (a.zip (b.zip c)).map (fun x => (x.1, x.2.1)) = a.zip b ∧ (a.zip (b.zip c)).map (fun x => (x.1, x.2.2)) = a.zip c
  | [], b, c, _, _ => by simp
  | x :: a, [], c, h, _ => by simp at h
  | x :: a, y :: b, [], _, h => by simp at h
  | x :: a, y :: b, z :: c, h1, h2 => by
    have ih := zip3_a (a := a) (b := b) (c := c) (by simpa using h1) (by simpa using h2)
    simp only [List.zip_cons_cons, List.map_cons, ih.1, ih.2, and_self]
theorem zip_snd : ∀ {a b : List Rat}, b.length = a.length → (a.zip b).map (·.2) = b ∧ (a.zip b).map (·.1) = a
  | [], [], _ => by simp
  | x :: a, y :: b, h => by
    have ih := zip_snd (a := a) (b := b) (by simpa using h)
    simp only [List.zip_cons_cons, List.map_cons, ih.1, ih.2, and_self]
theorem sum_mulR {c : Rat} : ∀ l : List Rat, (l.map fun x => x * c).sum = l.sum * c
  | [] => by simp
  | x :: l => by
    rw [List.map_cons, List.sum_cons, List.sum_cons, sum_mulR l]
    grind
structure NearQ (t : Nat) (qs ps : List Rat) : Prop where
  len : ps.length = qs.length
  one : ps.sum = 1
  bar : ∃ θ, 0 ≤ θ ∧ θ ≤ 1 ∧ ∀ x ∈ qs.zip ps, NrI t θ x.1 x.2
def Oth (t : Nat) (qs os : List Rat) : Prop := os.length = qs.length ∧ os.sum = 1 ∧ ∀ o ∈ os, Whl t o
theorem pts_one {t : Nat} {f : Tri → Rat} {l : List Tri} {b : List Rat} (e : l.map f = b) (h : b.sum = 1) : prt t f l = ((2 ^ t : Nat) : Rat) := by
  unfold prt
  have : (l.map fun x => f x * ((2 ^ t : Nat) : Rat)) = (l.map f).map fun y => y * ((2 ^ t : Nat) : Rat) := by rw [List.map_map]; rfl
  rw [this, sum_mulR, e, h, Rat.one_mul]
theorem cst_d2 {t : Nat} {f : Tri → Rat} {l : List Tri} {a b : List Rat} (h : b.length = a.length) (e : l.map (fun x => (x.1, f x)) = a.zip b) : cst t f l = d2 a b * ((2 ^ t : Nat) : Rat) := by
  unfold cst
  have : (l.map fun x => rab (x.1 - f x) * ((2 ^ t : Nat) : Rat)) = ((l.map fun x => (x.1, f x)).map fun p => rab (p.1 - p.2)).map fun y => y * ((2 ^ t : Nat) : Rat) := by rw [List.map_map, List.map_map]; rfl
  rw [this, sum_mulR, e, ← dls_sum h]
  rfl
section
variable {t : Nat} {qs ps os : List Rat}
theorem tri_of (h : NearQ t qs ps) (ho : Oth t qs os) {θ : Rat} (hb : ∀ x ∈ qs.zip ps, NrI t θ x.1 x.2) : ∀ x ∈ qs.zip (ps.zip os), NrI t θ x.1 x.2.1 ∧ Whl t x.2.2 := fun x hx => by
  obtain ⟨z1, z2⟩ := zip3_a h.len ho.1
  have m1 : (x.1, x.2.1) ∈ qs.zip ps := by rw [← z1]; exact List.mem_map.mpr ⟨x, hx, rfl⟩
  have m2 : (x.1, x.2.2) ∈ qs.zip os := by rw [← z2]; exact List.mem_map.mpr ⟨x, hx, rfl⟩
  exact ⟨hb _ m1, ho.2.2 _ (List.of_mem_zip m2).2⟩
theorem tri_prt (h : NearQ t qs ps) (ho : Oth t qs os) : prt t (·.2.1) (qs.zip (ps.zip os)) = ((2 ^ t : Nat) : Rat) ∧ prt t (·.2.2) (qs.zip (ps.zip os)) = ((2 ^ t : Nat) : Rat) := by
  obtain ⟨z1, z2⟩ := zip3_a h.len ho.1
  refine ⟨pts_one ?_ h.one, pts_one ?_ ho.2.1⟩
  · have := congrArg (List.map (·.2)) z1
    rw [List.map_map, (zip_snd h.len).1] at this
    exact this
  · have := congrArg (List.map (·.2)) z2
    rw [List.map_map, (zip_snd ho.1).1] at this
    exact this
theorem near_le (h : NearQ t qs ps) (ho : Oth t qs os) : d2 qs ps ≤ d2 qs os := by
  obtain ⟨θ, t0, t1, hb⟩ := h.bar
  have := all_le (t := t) t0 t1 (tri_of h ho hb)
  obtain ⟨p1, p2⟩ := tri_prt h ho
  obtain ⟨z1, z2⟩ := zip3_a h.len ho.1
  rw [p1, p2, cst_d2 h.len z1, cst_d2 ho.1 z2] at this
  exact Rat.le_of_mul_le_mul_right (by grind) (p2_pos t)
theorem sum_nil0 : ∀ {l : List Rat}, (∀ x ∈ l, 0 ≤ x) → l.sum = 0 → ∀ x ∈ l, x = 0
  | [], _, _ => by simp
  | y :: l, h, e => by
    rw [List.sum_cons] at e
    have h1 := h y List.mem_cons_self
    have h2 : 0 ≤ l.sum := sum_nonneg fun z hz => h z (List.mem_cons_of_mem _ hz)
    intro x hx
    rcases List.mem_cons.mp hx with rfl | hx
    · grind
    · exact sum_nil0 (fun z hz => h z (List.mem_cons_of_mem _ hz)) (by grind) x hx
theorem zip_eq : ∀ {a b : List Rat}, b.length = a.length → (∀ x ∈ a.zip b, x.2 = x.1) → b = a
  | [], [], _, _ => rfl
  | x :: a, y :: b, h, e => by
    have h1 := e (x, y) (by simp)
    have h2 := zip_eq (a := a) (b := b) (by simpa using h) fun z hz => e z (by simp [hz])
    simp only at h1
    rw [h1, h2]
theorem dif_sum {a b : List Rat} (h : b.length = a.length) (h1 : a.sum = 1) (h2 : b.sum = 1) (t : Nat) : ((a.zip b).map fun x => x.2 * ((2 ^ t : Nat) : Rat) - x.1 * ((2 ^ t : Nat) : Rat)).sum = 0 := by
  have key : ∀ l : List (Rat × Rat), (l.map fun x => x.2 * ((2 ^ t : Nat) : Rat) - x.1 * ((2 ^ t : Nat) : Rat)).sum = (l.map (·.2)).sum * ((2 ^ t : Nat) : Rat) - (l.map (·.1)).sum * ((2 ^ t : Nat) : Rat) := fun l => by
    induction l with
    | nil => simp; grind
    | cons x l ih => rw [List.map_cons, List.sum_cons, ih, List.map_cons, List.sum_cons, List.map_cons, List.sum_cons]; grind
  rw [key, (zip_snd h).1, (zip_snd h).2, h1, h2]
  grind
theorem near_bar (h : NearQ t qs ps) (h1 : qs.sum = 1) : (∃ θ, 0 < θ ∧ θ < 1 ∧ ∀ x ∈ qs.zip ps, NrI t θ x.1 x.2) ∨ ps = qs := by
  obtain ⟨θ, t0, t1, hb⟩ := h.bar
  have hs := dif_sum h.len h1 h.one t
  have hx : ∀ x : Rat × Rat, x.1 * ((2 ^ t : Nat) : Rat) = ((flr x.1 t : Int) : Rat) + rsd x.1 t := fun x => by unfold rsd; grind
  by_cases c : θ = 0 ∨ θ = 1
  · refine .inr (zip_eq h.len ?_)
    have hz : ∀ x ∈ qs.zip ps, x.2 * ((2 ^ t : Nat) : Rat) = x.1 * ((2 ^ t : Nat) : Rat) := by
      rcases c with rfl | rfl
      · have := sum_nil0 (l := (qs.zip ps).map fun x => x.2 * ((2 ^ t : Nat) : Rat) - x.1 * ((2 ^ t : Nat) : Rat)) (fun y hy => by
          obtain ⟨x, hm, rfl⟩ := List.mem_map.mp hy
          obtain ⟨r0, r1⟩ := rsd_bd x.1 t
          show 0 ≤ x.2 * _ - x.1 * _
          rw [hx x]
          rcases nri_abs (hb x hm) with ⟨a1, a2, a3⟩ | ⟨a1, a2, a3⟩ <;> rw [a3] <;> grind) hs
        intro x hm
        have := this _ (List.mem_map.mpr ⟨x, hm, rfl⟩)
        grind
      · have := sum_nil0 (l := (qs.zip ps).map fun x => x.1 * ((2 ^ t : Nat) : Rat) - x.2 * ((2 ^ t : Nat) : Rat)) (fun y hy => by
          obtain ⟨x, hm, rfl⟩ := List.mem_map.mp hy
          obtain ⟨r0, r1⟩ := rsd_bd x.1 t
          show 0 ≤ x.1 * _ - x.2 * _
          rw [hx x]
          rcases nri_abs (hb x hm) with ⟨a1, a2, a3⟩ | ⟨a1, a2, a3⟩ <;> rw [a3] <;> grind) (by
            have key : ∀ l : List (Rat × Rat), (l.map fun x => x.1 * ((2 ^ t : Nat) : Rat) - x.2 * ((2 ^ t : Nat) : Rat)).sum = -(l.map fun x => x.2 * ((2 ^ t : Nat) : Rat) - x.1 * ((2 ^ t : Nat) : Rat)).sum := fun l => by
              induction l with
              | nil => simp
              | cons x l ih => rw [List.map_cons, List.sum_cons, ih, List.map_cons, List.sum_cons]; grind
            rw [key, hs]
            grind)
        intro x hm
        have := this _ (List.mem_map.mpr ⟨x, hm, rfl⟩)
        grind
    intro x hm
    have h2 := hz x hm
    have hP := p2_pos t
    generalize ((2 ^ t : Nat) : Rat) = N at *
    have : (x.2 - x.1) * N = 0 := by grind
    rcases Rat.mul_eq_zero.mp this with z | z
    · grind
    · rw [z] at hP; exact absurd hP (by decide)
  · exact .inl ⟨θ, Rat.lt_of_le_of_ne t0 fun z => c (.inl z.symm), Rat.lt_of_le_of_ne t1 fun z => c (.inr z), hb⟩
theorem near_eq (h : NearQ t qs ps) (h1 : qs.sum = 1) (ho : Oth t qs os) (e : d2 qs os = d2 qs ps) : NearQ t qs os := by
  obtain ⟨z1, z2⟩ := zip3_a h.len ho.1
  rcases near_bar h h1 with ⟨θ, t0, t1, hb⟩ | rfl
  · obtain ⟨p1, p2⟩ := tri_prt h ho
    have := all_eq (t := t) t0 t1 (tri_of h ho hb) (by rw [p1, p2, cst_d2 h.len z1, cst_d2 ho.1 z2, e])
    refine ⟨ho.1, ho.2.1, θ, Rat.le_of_lt t0, Rat.le_of_lt t1, fun x hx => ?_⟩
    rw [← z2] at hx
    obtain ⟨y, hy, rfl⟩ := List.mem_map.mp hx
    exact this y hy
  · have : d2 ps ps = 0 := (d2_eq rfl).mpr rfl
    rw [this] at e
    rw [← (d2_eq ho.1).mp e]
    exact h
theorem near_whl (h : NearQ t qs ps) : Oth t qs ps := by
  obtain ⟨θ, t0, t1, hb⟩ := h.bar
  refine ⟨h.len, h.one, fun p hp => ?_⟩
  have : p ∈ (qs.zip ps).map (·.2) := by rw [(zip_snd h.len).1]; exact hp
  obtain ⟨x, hx, rfl⟩ := List.mem_map.mp this
  rcases hb x hx with ⟨a, _⟩ | ⟨a, _⟩
  · exact ⟨_, a⟩
  · exact ⟨_, a⟩
theorem near_same (h : NearQ t qs ps) (k : NearQ t qs os) : d2 qs ps = d2 qs os := by
  have a := near_le h (near_whl k)
  have b := near_le k (near_whl h)
  grind
end
end MR
namespace MR
def ppt (θ x : Rat) : Rat := if θ ≤ x then x - θ else 0
theorem ppt_ge (θ x : Rat) : x - θ ≤ ppt θ x ∧ 0 ≤ ppt θ x := by
  unfold ppt
  split <;> grind
theorem bar_ex : ∀ {G H : List Rat}, G ≠ [] → (∀ g ∈ G, ∀ h ∈ H, h ≤ g) → ∃ θ ∈ G, (∀ g ∈ G, θ ≤ g) ∧ ∀ h ∈ H, h ≤ θ
  | [], _, h, _ => absurd rfl h
  | [a], H, _, h => ⟨a, by simp, by simp, h a (by simp)⟩
  | a :: b :: G, H, _, h => by
    obtain ⟨θ, m, h1, h2⟩ := bar_ex (G := b :: G) (H := H) (by simp) fun g hg => h g (List.mem_cons_of_mem _ hg)
    rcases Rat.le_total (a := a) (b := θ) with c | c
    · refine ⟨a, by simp, fun g hg => ?_, h a (by simp)⟩
      rcases List.mem_cons.mp hg with rfl | hg
      · exact Rat.le_refl
      · exact Rat.le_trans c (h1 g hg)
    · refine ⟨θ, List.mem_cons_of_mem _ m, fun g hg => ?_, h2⟩
      rcases List.mem_cons.mp hg with rfl | hg
      · exact c
      · exact h1 g hg
theorem ppt_hi {θ : Rat} : ∀ {G : List Rat}, (∀ g ∈ G, θ ≤ g) → (G.map (ppt θ)).sum = G.sum - ((G.length : Nat) : Rat) * θ
  | [], _ => by simp; grind
  | a :: G, h => by
    have h1 := h a List.mem_cons_self
    have ih := ppt_hi fun g hg => h g (List.mem_cons_of_mem _ hg)
    rw [List.map_cons, List.sum_cons, ih, List.sum_cons, List.length_cons, Rat.natCast_add]
    have e : ppt θ a = a - θ := by unfold ppt; rw [if_pos h1]
    have e1 : ((1 : Nat) : Rat) = 1 := rfl
    rw [e, e1]
    grind
theorem ppt_lo {θ : Rat} : ∀ {G : List Rat}, (∀ g ∈ G, g ≤ θ) → (G.map (ppt θ)).sum = 0
  | [], _ => rfl
  | a :: G, h => by
    have h1 := h a List.mem_cons_self
    have ih := ppt_lo fun g hg => h g (List.mem_cons_of_mem _ hg)
    rw [List.map_cons, List.sum_cons, ih]
    unfold ppt
    split <;> grind
theorem ppt_any (θ : Rat) : ∀ G : List Rat, G.sum - ((G.length : Nat) : Rat) * θ ≤ (G.map (ppt θ)).sum ∧ 0 ≤ (G.map (ppt θ)).sum
  | [] => by simp; grind
  | a :: G => by
    have ih := ppt_any θ G
    have h := ppt_ge θ a
    rw [List.map_cons, List.sum_cons, List.sum_cons, List.length_cons, Rat.natCast_add]
    have e1 : ((1 : Nat) : Rat) = 1 := rfl
    rw [e1]
    constructor <;> grind
theorem rat_perm {l m : List Rat} (h : l.Perm m) : l.sum = m.sum := by
  induction h with
  | nil => rfl
  | cons x _ ih => rw [List.sum_cons, List.sum_cons, ih]
  | swap x y l => rw [List.sum_cons, List.sum_cons, List.sum_cons, List.sum_cons]; grind
  | trans _ _ ih1 ih2 => exact ih1.trans ih2
theorem top_le {G H A B : List Rat} (p : (G ++ H).Perm (A ++ B)) (hl : G.length = A.length) (hG : ∀ g ∈ G, ∀ h ∈ H, h ≤ g) : A.sum ≤ G.sum := by
  by_cases c : G = []
  · subst c
    have : A = [] := List.length_eq_zero_iff.mp hl.symm
    subst this
    exact Rat.le_refl
  · obtain ⟨θ, _, h1, h2⟩ := bar_ex c hG
    have e := rat_perm (p.map (ppt θ))
    rw [List.map_append, List.map_append, sum_append, sum_append, ppt_hi h1, ppt_lo h2] at e
    have a := (ppt_any θ A).1
    have b := (ppt_any θ B).2
    rw [hl] at e
    grind
theorem top_sum {G H A B : List Rat} (p : (G ++ H).Perm (A ++ B)) (hl : G.length = A.length) (hG : ∀ g ∈ G, ∀ h ∈ H, h ≤ g) (hA : ∀ a ∈ A, ∀ b ∈ B, b ≤ a) : A.sum = G.sum := by
  have h1 := top_le p hl hG
  have h2 := top_le p.symm hl.symm hA
  grind
def givI (t : Nat) (x : Rat × Rat) : Bool := decide (x.2 * ((2 ^ t : Nat) : Rat) = ((flr x.1 t + 1 : Int) : Rat))
def lefI (t : Nat) (x : Rat × Rat) : Bool := decide (x.2 * ((2 ^ t : Nat) : Rat) = ((flr x.1 t : Int) : Rat))
theorem giv_not {t : Nat} {x : Rat × Rat} (h : givI t x = true) : lefI t x = false := by
  unfold givI lefI at *
  have h := of_decide_eq_true h
  refine decide_eq_false fun z => ?_
  rw [h] at z
  have := Rat.intCast_inj.mp z
  omega
structure NrB (t : Nat) (qs os : List Rat) : Prop where
  two : ∀ x ∈ qs.zip os, givI t x = true ∨ lefI t x = true
  top : ∀ x ∈ qs.zip os, ∀ y ∈ qs.zip os, givI t x = true → lefI t y = true → rsd y.1 t ≤ rsd x.1 t
theorem nrb_iff {t : Nat} {qs os : List Rat} (ho : Oth t qs os) : NrB t qs os ↔ NearQ t qs os := by
  constructor
  · intro h
    refine ⟨ho.1, ho.2.1, ?_⟩
    by_cases c : ((qs.zip os).filter (givI t)) = []
    · refine ⟨1, by decide, Rat.le_refl, fun x hx => ?_⟩
      rcases h.two x hx with g | l
      · exact absurd g (by simpa using List.filter_eq_nil_iff.mp c x hx)
      · exact .inl ⟨of_decide_eq_true l, Rat.le_of_lt (rsd_bd x.1 t).2⟩
    · obtain ⟨θ, m, h1, h2⟩ := bar_ex (G := ((qs.zip os).filter (givI t)).map fun x => rsd x.1 t) (H := ((qs.zip os).filter (lefI t)).map fun x => rsd x.1 t) (by simpa using c) (fun g hg k hk => by
        obtain ⟨x, hx, rfl⟩ := List.mem_map.mp hg
        obtain ⟨y, hy, rfl⟩ := List.mem_map.mp hk
        rw [List.mem_filter] at hx hy
        exact h.top x hx.1 y hy.1 hx.2 hy.2)
      obtain ⟨z, hz, rfl⟩ := List.mem_map.mp m
      obtain ⟨b0, b1⟩ := rsd_bd z.1 t
      refine ⟨_, b0, Rat.le_of_lt b1, fun x hx => ?_⟩
      rcases h.two x hx with g | l
      · exact .inr ⟨of_decide_eq_true g, h1 _ (List.mem_map.mpr ⟨x, List.mem_filter.mpr ⟨hx, g⟩, rfl⟩)⟩
      · exact .inl ⟨of_decide_eq_true l, h2 _ (List.mem_map.mpr ⟨x, List.mem_filter.mpr ⟨hx, l⟩, rfl⟩)⟩
  · intro h
    obtain ⟨θ, t0, t1, hb⟩ := h.bar
    refine ⟨fun x hx => ?_, fun x hx y hy g l => ?_⟩
    · rcases hb x hx with a | a
      · exact .inr (decide_eq_true a.1)
      · exact .inl (decide_eq_true a.1)
    · have a1 : θ ≤ rsd x.1 t := by
        rcases hb x hx with a | a
        · have := giv_not g
          rw [lefI, decide_eq_true a.1] at this
          cases this
        · exact a.2
      have a2 : rsd y.1 t ≤ θ := by
        rcases hb y hy with a | a
        · exact a.2
        · have : givI t y = true := decide_eq_true a.1
          rw [giv_not this] at l
          cases l
      exact Rat.le_trans a2 a1
theorem loss_of {t : Nat} {qs ps : List Rat} (h : NearQ t qs ps) (h1 : qs.sum = 1) : d2 qs ps * ((2 ^ t : Nat) : Rat) = 2 * (((qs.zip ps).filter (givI t)).map fun x => 1 - rsd x.1 t).sum := by
  obtain ⟨θ, t0, t1, hb⟩ := h.bar
  have hs := dif_sum h.len h1 h.one t
  have e : d2 qs ps * ((2 ^ t : Nat) : Rat) = ((qs.zip ps).map fun x => rab (x.1 - x.2) * ((2 ^ t : Nat) : Rat)).sum := by
    rw [← dls_sum h.len]
    unfold dls
    rw [← sum_mulR, List.map_map]
    rfl
  rw [e]
  have key : ∀ l : List (Rat × Rat), (∀ x ∈ l, NrI t θ x.1 x.2) → (l.map fun x => rab (x.1 - x.2) * ((2 ^ t : Nat) : Rat)).sum + (l.map fun x => x.2 * ((2 ^ t : Nat) : Rat) - x.1 * ((2 ^ t : Nat) : Rat)).sum = 2 * ((l.filter (givI t)).map fun x => 1 - rsd x.1 t).sum := fun l => by
    induction l with
    | nil => intro _; simp; grind
    | cons x l ih =>
      intro h
      have ih := ih fun y hy => h y (List.mem_cons_of_mem _ hy)
      have hx : x.1 * ((2 ^ t : Nat) : Rat) = ((flr x.1 t : Int) : Rat) + rsd x.1 t := by unfold rsd; grind
      rw [List.map_cons, List.sum_cons, List.map_cons, List.sum_cons, List.filter_cons]
      rcases nri_abs (h x List.mem_cons_self) with ⟨a1, a2, a3⟩ | ⟨a1, a2, a3⟩
      · have hg : givI t x = false := by
          cases c : givI t x with
          | false => rfl
          | true =>
            have := giv_not c
            rw [lefI, decide_eq_true a3] at this
            cases this
        rw [hg, if_neg (by decide), a1, a3, hx]
        grind
      · have hg : givI t x = true := decide_eq_true (by rw [Rat.intCast_add, c1I]; exact a3)
        rw [hg, if_pos rfl, List.map_cons, List.sum_cons, a1, a3, hx]
        grind
  have := key _ hb
  rw [hs] at this
  grind
abbrev Stt := List (Rat × Nat)
def pti (t : Nat) (x : Rat × Nat) : Int := flr x.1 t + (x.2 : Int)
def ptr (t : Nat) (x : Rat × Nat) : Rat := if x.2 = 0 then rsd x.1 t else 0
structure NSt (t : Nat) (qs : List Rat) (S : Stt) (j : Nat) : Prop where
  fst : S.map (·.1) = qs
  bit : ∀ x ∈ S, x.2 = 0 ∨ x.2 = 1
  top : ∀ x ∈ S, ∀ y ∈ S, x.2 = 1 → y.2 = 0 → rsd y.1 t ≤ rsd x.1 t
  cnt : (S.map (·.2)).sum = j
def lck (t : Nat) (qs : List Rat) : Int := ((2 ^ t : Nat) : Int) - (qs.map fun q => flr q t).sum
theorem rsd_sum (t : Nat) : ∀ qs : List Rat, (qs.map fun q => rsd q t).sum = qs.sum * ((2 ^ t : Nat) : Rat) - (((qs.map fun q => flr q t).sum : Int) : Rat)
  | [] => by simp; grind
  | q :: qs => by
    rw [List.map_cons, List.sum_cons, rsd_sum t qs, List.sum_cons, List.map_cons, List.sum_cons, Rat.intCast_add]
    unfold rsd
    grind
theorem lck_eq {t : Nat} {qs : List Rat} (h1 : qs.sum = 1) : ((lck t qs : Int) : Rat) = (qs.map fun q => rsd q t).sum := by
  rw [rsd_sum, h1, Rat.one_mul]
  unfold lck
  rw [Rat.intCast_sub]
  rfl
theorem lck_bd {t : Nat} {qs : List Rat} (h1 : qs.sum = 1) : 0 ≤ lck t qs ∧ lck t qs ≤ (qs.length : Int) := by
  have e := lck_eq (t := t) h1
  have a : 0 ≤ (qs.map fun q => rsd q t).sum := sum_nonneg fun x hx => by obtain ⟨q, _, rfl⟩ := List.mem_map.mp hx; exact (rsd_bd q t).1
  have b : ∀ l : List Rat, (l.map fun q => rsd q t).sum ≤ ((l.length : Nat) : Rat) := fun l => by
    induction l with
    | nil => exact Rat.le_refl
    | cons q l ih =>
      have := (rsd_bd q t).2
      rw [List.map_cons, List.sum_cons, List.length_cons, Rat.natCast_add]
      have e1 : ((1 : Nat) : Rat) = 1 := rfl
      rw [e1]
      grind
  have b := b qs
  rw [← e] at a b
  refine ⟨Rat.intCast_nonneg.mp a, ?_⟩
  exact Rat.intCast_le_intCast.mp b
theorem nst_start (t : Nat) (qs : List Rat) : NSt t qs (qs.map fun q => (q, 0)) 0 := by
  refine ⟨by rw [List.map_map]; exact List.map_id _, fun x hx => ?_, fun x hx y hy h => ?_, ?_⟩
  · obtain ⟨q, _, rfl⟩ := List.mem_map.mp hx; exact .inl rfl
  · obtain ⟨q, _, rfl⟩ := List.mem_map.mp hx; cases h
  · rw [List.map_map]
    have : ((fun x : Rat × Nat => x.2) ∘ fun q => (q, 0)) = fun _ : Rat => 0 := rfl
    rw [this, List.map_const']
    simp
section
variable {t j : Nat} {qs : List Rat} {S : Stt}
theorem nst_more (h : NSt t qs S j) (h1 : qs.sum = 1) (hj : (j : Int) < lck t qs) : ∃ x ∈ S, x.2 = 0 ∧ 0 < rsd x.1 t := by
  refine Classical.byContradiction fun hc => ?_
  have key : ∀ S : Stt, (∀ x ∈ S, x.2 = 0 ∨ x.2 = 1) → (∀ x ∈ S, x.2 = 0 → rsd x.1 t ≤ 0) → ((S.map (·.1)).map fun q => rsd q t).sum ≤ (((S.map (·.2)).sum : Nat) : Rat) := fun S => by
    induction S with
    | nil => intro _ _; exact Rat.le_refl
    | cons x S ih =>
      intro a b
      have ih := ih (fun y hy => a y (List.mem_cons_of_mem _ hy)) fun y hy => b y (List.mem_cons_of_mem _ hy)
      rw [List.map_cons, List.map_cons, List.sum_cons, List.map_cons, List.sum_cons, Rat.natCast_add]
      rcases a x List.mem_cons_self with e | e
      · have := b x List.mem_cons_self e
        rw [e]
        have e0 : ((0 : Nat) : Rat) = 0 := rfl
        rw [e0]
        grind
      · have := (rsd_bd x.1 t).2
        rw [e]
        have e1 : ((1 : Nat) : Rat) = 1 := rfl
        rw [e1]
        grind
  have := key S h.bit fun x hx e => Rat.not_lt.mp fun z => hc ⟨x, hx, e, z⟩
  rw [h.fst, h.cnt, ← lck_eq h1] at this
  have e : ((j : Nat) : Rat) = (((j : Nat) : Int) : Rat) := rfl
  rw [e] at this
  have := Rat.intCast_le_intCast.mp this
  omega
theorem sum_set : ∀ (l : List Nat) (g : Nat) (v : Nat), l[g]? = some 0 → (l.set g v).sum = l.sum + v
  | [], g, v, h => by simp at h
  | a :: l, 0, v, h => by
    simp only [List.getElem?_cons_zero, Option.some.injEq] at h
    subst h
    simp only [List.set_cons_zero, List.sum_cons]
    omega
  | a :: l, g + 1, v, h => by
    simp only [List.getElem?_cons_succ] at h
    simp only [List.set_cons_succ, List.sum_cons, sum_set l g v h]
    omega
theorem nst_step (h : NSt t qs S j) (h1 : qs.sum = 1) (hj : (j : Int) < lck t qs) {g : Nat} {x : Rat × Nat} (hg : S[g]? = some x) (hm : ∀ y ∈ S, ptr t y ≤ ptr t x) : x.2 = 0 ∧ NSt t qs (S.set g (x.1, 1)) (j + 1) := by
  have hx : x ∈ S := List.mem_of_getElem? hg
  obtain ⟨y, hy, y0, yp⟩ := nst_more h h1 hj
  have hpos : 0 < ptr t x := by
    have := hm y hy
    unfold ptr at this ⊢
    rw [if_pos y0] at this
    grind
  have x0 : x.2 = 0 := by
    refine Classical.byContradiction fun c => ?_
    unfold ptr at hpos
    rw [if_neg c] at hpos
    exact absurd hpos (by decide)
  have hgl := (List.getElem?_eq_some_iff.mp hg).1
  have hmem : ∀ z ∈ S.set g (x.1, 1), z = (x.1, 1) ∨ z ∈ S := fun z hz => by
    rcases List.mem_or_eq_of_mem_set hz with m | m
    · exact .inr m
    · exact .inl m
  refine ⟨x0, ?_, fun z hz => ?_, fun z hz w hw e1 e0 => ?_, ?_⟩
  · rw [List.map_set, h.fst]
    have : qs[g]? = some x.1 := by rw [← h.fst, List.getElem?_map, hg]; rfl
    refine List.ext_getElem? fun i => ?_
    rw [List.getElem?_set]
    split
    · rename_i e
      subst e
      rw [if_pos (by rw [← h.fst, List.length_map]; exact hgl), this]
    · rfl
  · rcases hmem z hz with rfl | m
    · exact .inr rfl
    · exact h.bit z m
  · have hwS : w ∈ S := by
      rcases hmem w hw with rfl | m
      · cases e0
      · exact m
    rcases hmem z hz with rfl | m
    · have := hm w hwS
      unfold ptr at this
      rw [if_pos e0, if_pos x0] at this
      exact this
    · exact h.top z m w hwS e1 e0
  · rw [List.map_set]
    have : (S.map (·.2))[g]? = some 0 := by rw [List.getElem?_map, hg]; exact congrArg some x0
    rw [sum_set _ g 1 this, h.cnt]
def prtS (t : Nat) (x : Rat × Nat) : Rat := Rat.divInt (pti t x) (2 ^ t : Nat)
theorem nst_end (h : NSt t qs S j) (h1 : qs.sum = 1) (hj : (j : Int) = lck t qs) : NearQ t qs (S.map (prtS t)) := by
  have hz : ∀ S : Stt, (S.map (·.1)).zip (S.map (prtS t)) = S.map fun x => (x.1, prtS t x) := fun S => by
    induction S with
    | nil => rfl
    | cons x S ih => simp only [List.map_cons, List.zip_cons_cons, ih]
  have hsum : ∀ S : Stt, (S.map (prtS t)).sum * ((2 ^ t : Nat) : Rat) = ((((S.map (·.1)).map fun q => flr q t).sum + ((S.map (·.2)).sum : Nat) : Int) : Rat) := fun S => by
    induction S with
    | nil => simp
    | cons x S ih =>
      rw [List.map_cons, List.sum_cons, Rat.add_mul, ih]
      unfold prtS
      rw [dv_cast]
      unfold pti
      rw [← Rat.intCast_add]
      congr 1
      simp only [List.map_cons, List.sum_cons]
      omega
  have hlen : (S.map (prtS t)).length = qs.length := by rw [List.length_map, ← h.fst, List.length_map]
  have hone : (S.map (prtS t)).sum = 1 := by
    have := hsum S
    rw [h.fst, h.cnt, hj] at this
    unfold lck at this
    rw [show (qs.map fun q => flr q t).sum + (((2 ^ t : Nat) : Int) - (qs.map fun q => flr q t).sum) = ((2 ^ t : Nat) : Int) by omega] at this
    have e : (((2 ^ t : Nat) : Int) : Rat) = ((2 ^ t : Nat) : Rat) := rfl
    rw [e] at this
    have hP := p2_pos t
    generalize ((2 ^ t : Nat) : Rat) = N at *
    have h2 : ((S.map (prtS t)).sum - 1) * N = 0 := by grind
    rcases Rat.mul_eq_zero.mp h2 with z | z
    · grind
    · rw [z] at hP; exact absurd hP (by decide)
  refine (nrb_iff ⟨hlen, hone, fun o ho => ?_⟩).mp ⟨fun x hx => ?_, fun x hx y hy g l => ?_⟩
  · obtain ⟨x, hx, rfl⟩ := List.mem_map.mp ho
    exact ⟨_, dv_cast _ t⟩
  · rw [← h.fst, hz] at hx
    obtain ⟨s, hs, rfl⟩ := List.mem_map.mp hx
    have e : prtS t s * ((2 ^ t : Nat) : Rat) = ((pti t s : Int) : Rat) := dv_cast _ t
    rcases h.bit s hs with b | b
    · refine .inr (decide_eq_true ?_)
      show prtS t s * _ = _
      rw [e]
      unfold pti
      rw [b]
      congr 1
      show flr s.1 t + ((0 : Nat) : Int) = flr s.1 t
      omega
    · refine .inl (decide_eq_true ?_)
      show prtS t s * _ = _
      rw [e]
      unfold pti
      rw [b]
      rfl
  · rw [← h.fst, hz] at hx hy
    obtain ⟨s, hs, rfl⟩ := List.mem_map.mp hx
    obtain ⟨r, hr, rfl⟩ := List.mem_map.mp hy
    have es : prtS t s * ((2 ^ t : Nat) : Rat) = ((pti t s : Int) : Rat) := dv_cast _ t
    have er : prtS t r * ((2 ^ t : Nat) : Rat) = ((pti t r : Int) : Rat) := dv_cast _ t
    have g : prtS t s * _ = _ := of_decide_eq_true g
    have l : prtS t r * _ = _ := of_decide_eq_true l
    rw [es] at g
    rw [er] at l
    have g := Rat.intCast_inj.mp g
    have l := Rat.intCast_inj.mp l
    have g : flr s.1 t + (s.2 : Int) = flr s.1 t + 1 := g
    have l : flr r.1 t + (r.2 : Int) = flr r.1 t := l
    exact h.top s hs r hr (by omega) (by omega)
end
theorem lef_of {t : Nat} {qs ps : List Rat} (h : NearQ t qs ps) : ∀ x ∈ qs.zip ps, lefI t x = !givI t x := fun x hx => by
  rcases (nrb_iff (near_whl h)).mpr h |>.two x hx with g | l
  · rw [giv_not g, g]; rfl
  · cases c : givI t x with
    | false => rw [l]; rfl
    | true => rw [giv_not c] at l; cases l
theorem giv_len {t : Nat} {qs ps : List Rat} (h : NearQ t qs ps) : ((((qs.zip ps).filter (givI t)).length : Nat) : Int) = lck t qs := by
  have hw := near_whl h
  have key : ∀ l : List (Rat × Rat), (∀ x ∈ l, givI t x = true ∨ lefI t x = true) → (l.map (·.2)).sum * ((2 ^ t : Nat) : Rat) = ((((l.filter (givI t)).length : Nat) : Int) : Rat) + ((((l.map (·.1)).map fun q => flr q t).sum : Int) : Rat) := fun l => by
    induction l with
    | nil => intro _; simp; grind
    | cons x l ih =>
      intro hx
      have ih := ih fun y hy => hx y (List.mem_cons_of_mem _ hy)
      rw [List.map_cons, List.sum_cons, Rat.add_mul, ih, List.filter_cons, List.map_cons, List.map_cons, List.sum_cons, Rat.intCast_add]
      rcases hx x List.mem_cons_self with g | l'
      · rw [if_pos g, List.length_cons]
        have e : x.2 * ((2 ^ t : Nat) : Rat) = ((flr x.1 t + 1 : Int) : Rat) := of_decide_eq_true g
        rw [e, Rat.intCast_add, c1I]
        have e2 : ((((l.filter (givI t)).length + 1 : Nat) : Int) : Rat) = ((((l.filter (givI t)).length : Nat) : Int) : Rat) + 1 := by
          rw [show (((l.filter (givI t)).length + 1 : Nat) : Int) = (((l.filter (givI t)).length : Nat) : Int) + 1 by omega, Rat.intCast_add, c1I]
        rw [e2]
        grind
      · have g : givI t x = false := by
          cases c : givI t x with
          | false => rfl
          | true => rw [giv_not c] at l'; cases l'
        rw [if_neg (by rw [g]; decide)]
        have e : x.2 * ((2 ^ t : Nat) : Rat) = ((flr x.1 t : Int) : Rat) := of_decide_eq_true l'
        rw [e]
        grind
  have := key _ ((nrb_iff hw).mpr h).two
  rw [(zip_snd h.len).1, (zip_snd h.len).2, h.one, Rat.one_mul] at this
  have e : ((2 ^ t : Nat) : Rat) = (((2 ^ t : Nat) : Int) : Rat) := rfl
  rw [e, ← Rat.intCast_add] at this
  have := Rat.intCast_inj.mp this
  unfold lck
  omega
theorem one_less : ∀ l : List Rat, (l.map fun r => 1 - r).sum = ((l.length : Nat) : Rat) - l.sum
  | [] => by simp; grind
  | a :: l => by
    rw [List.map_cons, List.sum_cons, one_less l, List.length_cons, List.sum_cons, Rat.natCast_add]
    have e1 : ((1 : Nat) : Rat) = 1 := rfl
    rw [e1]
    grind
theorem least_sum {t : Nat} {qs ps zs : List Rat} (h : NearQ t qs ps) (h1 : qs.sum = 1) (hp : zs.Perm (qs.map fun q => rsd q t)) (hs : zs.Pairwise fun a b => b ≤ a) {L : Nat} (hL : (L : Int) = lck t qs) :
    ((zs.take L).map fun r => 1 - r).sum / ((2 ^ t : Nat) : Rat) = d2 qs ps / 2 := by
  have hg := giv_len h
  have hl := loss_of h h1
  have hlb := lck_bd (t := t) h1
  have hzl : zs.length = qs.length := by rw [hp.length_eq, List.length_map]
  have hA : (zs.take L).length = L := by rw [List.length_take]; omega
  have hperm : ((((qs.zip ps).filter (givI t)).map fun x => rsd x.1 t) ++ (((qs.zip ps).filter (lefI t)).map fun x => rsd x.1 t)).Perm (zs.take L ++ zs.drop L) := by
    rw [List.take_append_drop, ← List.map_append]
    refine List.Perm.trans ?_ hp.symm
    have e : (qs.map fun q => rsd q t) = (qs.zip ps).map fun x => rsd x.1 t := by
      have := congrArg (List.map fun q => rsd q t) (zip_snd h.len).2
      rw [List.map_map] at this
      exact this.symm
    rw [e]
    refine List.Perm.map _ ?_
    have e2 : (qs.zip ps).filter (lefI t) = (qs.zip ps).filter fun x => !givI t x := List.filter_congr fun x hx => lef_of h x hx
    rw [e2]
    exact List.filter_append_perm _ _
  have hts := top_sum hperm (by rw [List.length_map, hA]; omega) (fun g hg k hk => by
    obtain ⟨x, hx, rfl⟩ := List.mem_map.mp hg
    obtain ⟨y, hy, rfl⟩ := List.mem_map.mp hk
    rw [List.mem_filter] at hx hy
    exact ((nrb_iff (near_whl h)).mpr h).top x hx.1 y hy.1 hx.2 hy.2) (fun a ha b hb => by
    have hsp : (zs.take L ++ zs.drop L).Pairwise fun a b => b ≤ a := by rw [List.take_append_drop]; exact hs
    exact (List.pairwise_append.mp hsp).2.2 a ha b hb)
  rw [one_less, hts, hA]
  have e3 : (((qs.zip ps).filter (givI t)).map fun x => 1 - rsd x.1 t) = ((((qs.zip ps).filter (givI t)).map fun x => rsd x.1 t).map fun r => 1 - r) := by rw [List.map_map]; rfl
  rw [e3, one_less, List.length_map, show ((qs.zip ps).filter (givI t)).length = L by omega] at hl
  have hP := p2_pos t
  generalize (((qs.zip ps).filter (givI t)).map fun x => rsd x.1 t).sum = S at *
  generalize d2 qs ps = D at *
  generalize ((2 ^ t : Nat) : Rat) = N at *
  have hN : N ≠ 0 := by grind
  grind
theorem map_perm {α β : Type} (f : α → β) : ∀ {zs ys : List β}, zs.Perm ys → ∀ l : List α, ys = l.map f → ∃ l' : List α, l'.Perm l ∧ zs = l'.map f := by
  intro zs ys h
  induction h with
  | nil => intro l e; exact ⟨l, .refl _, e⟩
  | cons x _ ih =>
    intro l e
    cases l with
    | nil => simp at e
    | cons a l =>
      simp only [List.map_cons, List.cons.injEq] at e
      obtain ⟨l', p, q⟩ := ih l e.2
      exact ⟨a :: l', p.cons _, by rw [List.map_cons, ← q, e.1]⟩
  | swap x y l0 =>
    intro l e
    cases l with
    | nil => simp at e
    | cons a l =>
      cases l with
      | nil => simp at e
      | cons b l =>
        simp only [List.map_cons, List.cons.injEq] at e
        exact ⟨b :: a :: l, .swap _ _ _, by rw [List.map_cons, List.map_cons, ← e.1, ← e.2.1, ← e.2.2]⟩
  | trans _ _ ih1 ih2 =>
    intro l e
    obtain ⟨l', p, q⟩ := ih2 l e
    obtain ⟨l2, p2, q2⟩ := ih1 l' q
    exact ⟨l2, p2.trans p, q2⟩
def kyI (r : Rat) : Int := (((2 ^ 80 : Nat) : Int) * r.num).fdiv (r.den : Int)
theorem ky_lt {D : Nat} {a b : Rat} (hD : D < 2 ^ 44) (d0 : 0 < D) (ca : Cm D a) (cb : Cm D b) (h : a < b) : kyI a < kyI b := by
  obtain ⟨i, hi⟩ := ca
  obtain ⟨j, hj⟩ := cb
  have hDp : (0 : Rat) < ((D : Nat) : Rat) := by exact_mod_cast d0
  have h1 := Rat.mul_lt_mul_of_pos_right h hDp
  rw [hi, hj] at h1
  have h2 : i + 1 ≤ j := Rat.intCast_lt_intCast.mp h1
  have key : a + Rat.divInt 1 (2 ^ 80 : Nat) ≤ b := by
    have e80 := dv_cast 1 80
    have hP := p2_pos 80
    have hle : ((D : Nat) : Rat) ≤ ((2 ^ 80 : Nat) : Rat) := Rat.natCast_le_natCast.mpr (Nat.le_of_lt (Nat.lt_trans hD (by decide)))
    have h3 : (i : Rat) + 1 ≤ (j : Rat) := by
      have := Rat.intCast_le_intCast.mpr h2
      rw [Rat.intCast_add, c1I] at this
      exact this
    rw [c1I] at e80
    generalize Rat.divInt 1 (2 ^ 80 : Nat) = ε at *
    generalize ((2 ^ 80 : Nat) : Rat) = N at *
    generalize ((D : Nat) : Rat) = d at *
    have hε : 0 < ε := by
      refine Rat.not_le.mp fun z => ?_
      have := Rat.mul_le_mul_of_nonneg_right z (Rat.le_of_lt hP)
      grind
    have h4 : ε * d ≤ ε * N := Rat.mul_le_mul_of_nonneg_left hle (Rat.le_of_lt hε)
    refine Rat.le_of_mul_le_mul_right (?_ : _ * d ≤ b * d) hDp
    grind
  have ea : ∀ r : Rat, kyI r = flr r 80 := fun r => by
    unfold kyI flr
    rw [Int.fdiv_eq_ediv_of_nonneg _ (by omega), Int.mul_comm]
  rw [ea, ea]
  have : flr a 80 + 1 ≤ flr b 80 := by
    rw [flr_iff]
    have h5 : Rat.divInt (flr a 80) (2 ^ 80 : Nat) ≤ a := flr_iff.mp (Int.le_refl _)
    have e6 : Rat.divInt (flr a 80 + 1) (2 ^ 80 : Nat) = Rat.divInt (flr a 80) (2 ^ 80 : Nat) + Rat.divInt 1 (2 ^ 80 : Nat) := by
      have hx := pow2_ne 80
      simp only [Rat.divInt_eq_div]
      rw [Rat.intCast_add]
      generalize (((2 ^ 80 : Nat) : Int) : Rat) = x at *
      grind
    rw [e6]
    grind
  omega
theorem rsd_cm {D : Nat} {q : Rat} (h : Cm D q) (t : Nat) : Cm D (rsd q t) := by
  obtain ⟨k, hk⟩ := h
  refine ⟨k * ((2 ^ t : Nat) : Int) - flr q t * (D : Int), ?_⟩
  unfold rsd
  rw [Rat.intCast_sub, Rat.intCast_mul, Rat.intCast_mul, ← hk]
  have e1 : (((2 ^ t : Nat) : Int) : Rat) = ((2 ^ t : Nat) : Rat) := rfl
  have e2 : (((D : Nat) : Int) : Rat) = ((D : Nat) : Rat) := rfl
  rw [e1, e2]
  generalize ((2 ^ t : Nat) : Rat) = N at *
  generalize ((D : Nat) : Rat) = d at *
  grind
end MR
namespace Fx
open PySem PySem.Spec PyProof.Rows L2
section
variable {K : PySem.W.Frag}
end
end Fx
namespace Fx
open PySem PySem.Spec PyProof.Rows L2
end Fx
namespace Fx
open PySem PySem.Spec PyProof.Rows L2
section
variable {K : PySem.W.Frag}
end
end Fx
namespace Fx
open PySem PySem.Spec PyProof.Rows L2
section
variable {K : PySem.W.Frag}
end
end Fx
namespace Fx
open PySem PySem.Spec PyProof.Rows L2
section
variable {K : PySem.W.Frag} {d : Wd} {H : Hp}
end
end Fx
namespace Fx
open PySem PySem.Spec PyProof.Rows L2
section
variable {K : PySem.W.Frag}
end
end Fx
namespace Fx
open PySem PySem.Spec PyProof.Rows L2 RZ
theorem or_ne {c i l z : Addr} (e : c = i ∨ c = l) (p : i ≠ z) (q : l ≠ z) : c ≠ z := by
  rcases e with e | e <;> (rw [e]; assumption)
structure Wkr (P : Program) (w : World) (i l : Addr) (xs : Array Value) (S : Heap → Nat → Prop) : Prop where
  keep : ∀ {h h' : Heap} {k : Nat}, S h k → (∀ c o, c = i ∨ c = l → h.get? c = some o → h'.get? c = some o) → S h' k
  lt : ∀ {h : Heap} {k : Nat}, S h k → i < h.objs.size
  item : ∀ {A : Around} {E : Value → Shared → Prop} {s : Shared} {k : Nat} {x : Value} {Q : Value → Shared → Prop}, S s.heap k → xs[k]? = some x →
    (∀ h', S h' (k + 1) → Heap.SameBut i s.heap h' → Q x { s with heap := h' }) → wpAny (model P w) A (Builtin.SmallTypes.nextOf (.ref i)) Q E s
  fin : ∀ {A : Around} {E : Value → Shared → Prop} {s : Shared} {k : Nat} {Q : Value → Shared → Prop}, A.handled = none → S s.heap k → xs[k]? = none →
    (∀ h' e, Heap.ExtBut i s.heap h' → (∃ o, h'.get? e = some o ∧ o.cls = .type "StopIteration") → E (.ref e) { s with heap := h' }) → wpAny (model P w) A (Builtin.SmallTypes.nextOf (.ref i)) Q E s
section
variable {P : Program} {w : World} {A : Around} {E : Value → Shared → Prop} {s : Shared}
theorem wkr_lst {i l : Addr} (hne : l ≠ i) (xs : Array Value) : Wkr P w i l xs fun h k => h.IsListIter i l k ∧ h.IsList l xs where
  keep z q := ⟨z.1.at fun o => q i o (.inl rfl), z.2.at fun o => q l o (.inr rfl)⟩
  lt z := by
    obtain ⟨_, q, _⟩ := z.1
    exact Heap.lt_size q
  item z hx q := wpAny_nextOf_list_item z.1 z.2 hx fun h' a b => q h' ⟨a, z.2.extBut b.extBut hne⟩ b
  fin hh z hx q := wpAny_nextOf_list_end hh z.1 z.2 hx q
theorem wkr_tup {i l : Addr} (hne : l ≠ i) (xs : Array Value) : Wkr P w i l xs fun h k => h.IsTupleIter i l k ∧ h.IsTuple l xs where
  keep z q := ⟨z.1.at fun o => q i o (.inl rfl), let ⟨o, ho, r⟩ := z.2; ⟨o, q l o (.inr rfl) ho, r⟩⟩
  lt z := by
    obtain ⟨_, q, _⟩ := z.1
    exact Heap.lt_size q
  item z hx q := nextOf_tuple_item z.1 z.2 hx fun h' a b => q h' ⟨a, z.2.extBut b.extBut hne⟩ b
  fin hh z hx q := nextOf_tuple_end hh z.1 z.2 hx q
abbrev KeptZ (z TO i1 i2 : Addr) (h h' : Heap) : Prop := ∀ c o, c ≠ z → c ≠ TO → c ≠ i1 → c ≠ i2 → h.get? c = some o → h'.get? c = some o
variable {z TI TO i1 i2 l1 l2 : Addr} {xs ys : Array Value} {S1 S2 : Heap → Nat → Prop} {k1 k2 : Nat} {a b : Value}
theorem zw_item {x y : Value} {Q : Value → Shared → Prop} (D : ZipApart z TI TO i1 i2 l1 l2) (W1 : Wkr P w i1 l1 xs S1) (W2 : Wkr P w i2 l2 ys S2) (hz : IsZip s.heap z TI TO .none)
    (hI : IsPair s.heap TI (.ref i1) (.ref i2)) (hO : IsPair s.heap TO a b) (h1 : S1 s.heap k1) (h2 : S2 s.heap k2) (hx : xs[k1]? = some x) (hy : ys[k2]? = some y)
    (go : ∀ h', IsZip h' z TI TO (rawInt s.heap.objs.size) ∧ IsPair h' TO x y ∧ S1 h' (k1 + 1) ∧ S2 h' (k2 + 1) ∧ IsPair h' s.heap.objs.size x y ∧ h'.objs.size = s.heap.objs.size + 1 ∧ KeptZ z TO i1 i2 s.heap h' → Q (.ref s.heap.objs.size) { s with heap := h' }) :
    wpAny (model P w) A (Builtin.«zip.__next__» ⟨[.ref z], []⟩) (fun f s' => ∃ v, f = .done (.ret v) ∧ Q v s') E s := by
  show wpAny _ _ (field (.ref z) 2 >>= _) _ _ _; refine wpAny_bind (wpAny_field hz rfl (x := .bool false) rfl ?_)
  show wpAny _ _ (field (.ref z) 3 >>= _) _ _ _; refine wpAny_bind (wpAny_field hz rfl (x := .ref TI) rfl (wpAny_bind (wpAny_seqItems hI rfl ?_)))
  show wpAny _ _ (Builtin.SmallTypes.ownedTupleIsFree (.ref z) >>= _) _ _ _; refine wpAny_bind ?_; unfold Builtin.SmallTypes.ownedTupleIsFree
  refine wpAny_bind (wpAny_field hz rfl (x := .none) rfl (wpAny_pure ?_)); simp only [if_true]
  refine wpAny_bind (wpAny_rule (wpAny_bind (wpAny_field hz rfl (x := .ref TO) rfl (wpAny_bind (wpAny_setField_rec hz (by simp) fun g1 y1 b1 => ?_)))))
  replace y1 : IsZip g1 z TI TO .ellipsis := y1; refine wpAny_bind ?_; simp only [List.zipIdx_cons, List.zipIdx_nil, List.forIn_cons, List.forIn_nil]
  refine wpAny_bind (wpAny_bind (wpAny_onRaise ?_)); show wpAny _ _ (Builtin.SmallTypes.nextOf (.ref i1) >>= _) _ _ _
  have a1 : S1 g1 k1 := W1.keep h1 fun c o e => b1.extBut _ o (or_ne e D.i1z D.l1z)
  refine wpAny_bind (W1.item a1 hx fun g2 s2 b2 => wpAny_pure ?_)
  have o2 : IsPair g2 TO a b := b2.extBut _ _ D.TOi1 (b1.extBut _ _ D.TOz hO)
  refine wpAny_bind (wpAny_seqItems o2 rfl (wpAny_bind (wpAny_updateSeq_pair o2 fun g3 o3 b3 => ?_))); replace o3 : IsPair g3 TO x b := o3
  refine wpAny_bind (wpAny_letGo (wpAny_pure ?_)); refine wpAny_bind (wpAny_bind (wpAny_onRaise ?_))
  show wpAny _ _ (Builtin.SmallTypes.nextOf (.ref i2) >>= _) _ _ _
  have a2 : S2 g3 k2 := W2.keep h2 fun c o e q => b3.extBut _ o (or_ne e D.TOi2.symm D.l2TO)
    (b2.extBut _ o (or_ne e D.i12.symm D.l2i1) (b1.extBut _ o (or_ne e D.i2z D.l2z) q))
  refine wpAny_bind (W2.item a2 hy fun g4 s4 b4 => wpAny_pure ?_)
  have o4 : IsPair g4 TO x b := b4.extBut _ _ D.TOi2 o3
  refine wpAny_bind (wpAny_seqItems o4 rfl (wpAny_bind (wpAny_updateSeq_pair o4 fun g5 o5 b5 => ?_))); replace o5 : IsPair g5 TO x y := o5
  refine wpAny_bind (wpAny_letGo (wpAny_pure (wpAny_pure ?_))); refine wpAny_bind (wpAny_seqItems o5 rfl (wpAny_bind (wpAny_newTuple ?_)))
  have sz : g5.objs.size = s.heap.objs.size := by simp only [b5.1, b4.1, b3.1, b2.1, b1.1]
  have y5 : IsZip g5 z TI TO .ellipsis := b5.extBut _ _ D.TOz.symm (b4.extBut _ _ D.i2z.symm (b3.extBut _ _ D.TOz.symm (b2.extBut _ _ D.i1z.symm y1)))
  have k5 : KeptZ z TO i1 i2 s.heap g5 := fun c o p1 p2 p3 p4 e => b5.extBut _ _ p2 (b4.extBut _ _ p4 (b3.extBut _ _ p2 (b2.extBut _ _ p3 (b1.extBut _ _ p1 e))))
  have s5 : S1 g5 (k1 + 1) := W1.keep s2 fun c o e q => b5.extBut _ o (or_ne e D.TOi1.symm D.l1TO)
    (b4.extBut _ o (or_ne e D.i12 D.l1i2) (b3.extBut _ o (or_ne e D.TOi1.symm D.l1TO) q))
  have t5 : S2 g5 (k2 + 1) := W2.keep s4 fun c o e => b5.extBut _ o (or_ne e D.TOi2.symm D.l2TO)
  have zl : z < g5.objs.size := Heap.lt_size y5
  show wpAny _ _ (Builtin.SmallTypes.ownedTupleHandOut (.ref z) (.ref g5.objs.size) >>= _) _ _ _; refine wpAny_bind ?_; unfold Builtin.SmallTypes.ownedTupleHandOut
  have y6 : IsZip (g5.push { cls := .type "tuple", data := .seq #[x, y] }) z TI TO .ellipsis := Heap.get?_push_of_some _ y5
  refine wpAny_bind (wpAny_setField_rec y6 (by simp) fun g7 y7 b7 => wpAny_setField_rec (show IsZip g7 z TI TO (rawInt g5.objs.size) from y7) (by simp) fun g8 y8 b8 => ?_)
  have y9 : IsZip g8 z TI TO (rawInt g5.objs.size) := y8
  have up : ∀ c o, c ≠ z → g5.get? c = some o → g8.get? c = some o := fun c o p e => b8.extBut _ _ p (b7.extBut _ _ p (Heap.get?_push_of_some _ e))
  have n8 : IsPair g8 g5.objs.size x y := b8.extBut _ _ (Nat.ne_of_gt zl) (b7.extBut _ _ (Nat.ne_of_gt zl) (Heap.get?_push_size _ rfl))
  have z8 : g8.objs.size = g5.objs.size + 1 := by simp only [b8.1, b7.1, Heap.size_push]
  rw [sz] at y9 n8 z8; refine wpAny_pure ⟨_, rfl, ?_⟩; show Q (.ref g5.objs.size) _; rw [sz]
  exact go g8 ⟨y9, up _ _ D.TOz o5, W1.keep s5 fun c o e => up c o (or_ne e D.i1z D.l1z), W2.keep t5 fun c o e => up c o (or_ne e D.i2z D.l2z), n8, z8,
    fun c o p1 p2 p3 p4 e => up c o p1 (k5 c o p1 p2 p3 p4 e)⟩
theorem zw_end {Q : Fin → Shared → Prop} (hh : A.handled = none) (D : ZipApart z TI TO i1 i2 l1 l2) (W1 : Wkr P w i1 l1 xs S1) (W2 : Wkr P w i2 l2 ys S2) (hz : IsZip s.heap z TI TO .none)
    (hI : IsPair s.heap TI (.ref i1) (.ref i2)) (hO : IsPair s.heap TO a b) (h1 : S1 s.heap k1) (h2 : S2 s.heap k2) (hend : xs[k1]? = none ∨ ys[k2]? = none)
    (hE : ∀ h' e, KeptZ z TO i1 i2 s.heap h' → (∃ o, h'.get? e = some o ∧ o.cls = .type "StopIteration") → E (.ref e) { s with heap := h' }) :
    wpAny (model P w) A (Builtin.«zip.__next__» ⟨[.ref z], []⟩) Q E s := by
  show wpAny _ _ (field (.ref z) 2 >>= _) _ _ _; refine wpAny_bind (wpAny_field hz rfl (x := .bool false) rfl ?_)
  show wpAny _ _ (field (.ref z) 3 >>= _) _ _ _; refine wpAny_bind (wpAny_field hz rfl (x := .ref TI) rfl (wpAny_bind (wpAny_seqItems hI rfl ?_)))
  show wpAny _ _ (Builtin.SmallTypes.ownedTupleIsFree (.ref z) >>= _) _ _ _; refine wpAny_bind ?_; unfold Builtin.SmallTypes.ownedTupleIsFree
  refine wpAny_bind (wpAny_field hz rfl (x := .none) rfl (wpAny_pure ?_)); simp only [if_true]
  refine wpAny_bind (wpAny_rule (wpAny_bind (wpAny_field hz rfl (x := .ref TO) rfl (wpAny_bind (wpAny_setField_rec hz (by simp) fun g1 y1 b1 => ?_)))))
  replace y1 : IsZip g1 z TI TO .ellipsis := y1; refine wpAny_bind ?_; simp only [List.zipIdx_cons, List.zipIdx_nil, List.forIn_cons, List.forIn_nil]
  refine wpAny_bind (wpAny_bind (wpAny_onRaise ?_)); show wpAny _ _ (Builtin.SmallTypes.nextOf (.ref i1) >>= _) _ _ _
  have a1 : S1 g1 k1 := W1.keep h1 fun c o e => b1.extBut _ o (or_ne e D.i1z D.l1z)
  cases hx : xs[k1]? with
  | none =>
    refine wpAny_bind (W1.fin hh a1 hx fun g2 e b2 q => ?_); obtain ⟨oe, p, hc⟩ := q
    have y2 : IsZip g2 z TI TO .ellipsis := b2 _ _ D.i1z.symm y1
    have ne : e ≠ z := fun q => by
      subst q; rw [y2] at p; cases p; simp at hc
    refine wpAny_setField_rec y2 (by simp) fun g3 _ b3 => hE g3 e (fun c o p1 _ p3 _ q => b3.extBut _ _ p1 (b2 _ _ p3 (b1.extBut _ _ p1 q))) ⟨oe, b3.extBut _ _ ne p, hc⟩
  | some x =>
    have hy : ys[k2]? = none := hend.resolve_left fun q => nomatch hx.symm.trans q
    refine wpAny_bind (W1.item a1 hx fun g2 s2 b2 => wpAny_pure ?_)
    have o2 : IsPair g2 TO a b := b2.extBut _ _ D.TOi1 (b1.extBut _ _ D.TOz hO)
    refine wpAny_bind (wpAny_seqItems o2 rfl (wpAny_bind (wpAny_updateSeq_pair o2 fun g3 o3 b3 => ?_)))
    refine wpAny_bind (wpAny_letGo (wpAny_pure ?_)); refine wpAny_bind (wpAny_bind (wpAny_onRaise ?_))
    show wpAny _ _ (Builtin.SmallTypes.nextOf (.ref i2) >>= _) _ _ _
    have a2 : S2 g3 k2 := W2.keep h2 fun c o e q => b3.extBut _ o (or_ne e D.TOi2.symm D.l2TO)
      (b2.extBut _ o (or_ne e D.i12.symm D.l2i1) (b1.extBut _ o (or_ne e D.i2z D.l2z) q))
    refine wpAny_bind (W2.fin hh a2 hy fun g4 e b4 q => ?_); obtain ⟨oe, p, hc⟩ := q
    have y4 : IsZip g4 z TI TO .ellipsis := b4 _ _ D.i2z.symm (b3.extBut _ _ D.TOz.symm (b2.extBut _ _ D.i1z.symm y1))
    have ne : e ≠ z := fun q => by
      subst q; rw [y4] at p; cases p; simp at hc
    refine wpAny_setField_rec y4 (by simp) fun g5 _ b5 => hE g5 e (fun c o p1 p2 p3 p4 q => b5.extBut _ _ p1 (b4 _ _ p4 (b3.extBut _ _ p2 (b2.extBut _ _ p3 (b1.extBut _ _ p1 q))))) ⟨oe, b5.extBut _ _ ne p, hc⟩
theorem zw_next {x y : Value} {Q : Option Value → Shared → Prop} (D : ZipApart z TI TO i1 i2 l1 l2) (W1 : Wkr P w i1 l1 xs S1) (W2 : Wkr P w i2 l2 ys S2) (hz : IsZip s.heap z TI TO .none)
    (hI : IsPair s.heap TI (.ref i1) (.ref i2)) (hO : IsPair s.heap TO a b) (h1 : S1 s.heap k1) (h2 : S2 s.heap k2) (hx : xs[k1]? = some x) (hy : ys[k2]? = some y)
    (go : ∀ h', IsZip h' z TI TO (rawInt s.heap.objs.size) ∧ IsPair h' TO x y ∧ S1 h' (k1 + 1) ∧ S2 h' (k2 + 1) ∧ IsPair h' s.heap.objs.size x y ∧ h'.objs.size = s.heap.objs.size + 1 ∧ KeptZ z TO i1 i2 s.heap h' → Q (some (.ref s.heap.objs.size)) { s with heap := h' }) :
    wpAny (model P w) A (pyNext (.ref z)) Q E s :=
  have ty : s.TypeIs (.ref z) "zip" := ⟨_, hz, rfl⟩
  (by unfold pyNext; exact wpAny_bind (wpAny_attempt (wpAny_callSpecial?_slot (name := Str.ofString "__next__") ty F.slot_zip_next
    (wpAny_call_entry F.slot_zip_next ty F.entry_zip_next (zw_item D W1 W2 hz hI hO h1 h2 hx hy fun h' q => wpAny_pure (go h' q)) (F.args_zip_next_1 _)))))
theorem zw_stop {Q : Option Value → Shared → Prop} (hh : A.handled = none) (D : ZipApart z TI TO i1 i2 l1 l2) (W1 : Wkr P w i1 l1 xs S1) (W2 : Wkr P w i2 l2 ys S2) (hz : IsZip s.heap z TI TO .none)
    (hI : IsPair s.heap TI (.ref i1) (.ref i2)) (hO : IsPair s.heap TO a b) (h1 : S1 s.heap k1) (h2 : S2 s.heap k2) (hend : xs[k1]? = none ∨ ys[k2]? = none)
    (go : ∀ h', KeptZ z TO i1 i2 s.heap h' → Q none { s with heap := h' }) : wpAny (model P w) A (pyNext (.ref z)) Q E s :=
  have ty : s.TypeIs (.ref z) "zip" := ⟨_, hz, rfl⟩
  (by unfold pyNext; exact wpAny_bind (wpAny_attempt (wpAny_callSpecial?_slot (name := Str.ofString "__next__") ty F.slot_zip_next
    (wpAny_call_entry F.slot_zip_next ty F.entry_zip_next (zw_end hh D W1 W2 hz hI hO h1 h2 hend fun h' e k q => let ⟨o, ho, hc⟩ := q
      wpAny_bind (wpAny_isInstance (T := "StopIteration") (b := true) ⟨o, ho, hc⟩ isSubtype_stop (wpAny_pure (go _ k)))) (F.args_zip_next_1 _)))))
end
def ItzM (K : PySem.W.Frag) (a b : Addr) : It :=
  ⟨fun i H => ∃ xs ys : List V, SqL K H a xs ∧ SqT K H b ys ∧ ∃ x y : V, xs[i]? = some x ∧ ys[i]? = some y,
    fun i H v H' => ∃ (T : Addr) (x y : V), v = .ref T ∧ (H T = none ∧ H' = upd H T (.tup [x, y])) ∧ (∀ ws, SqL K H a ws → ws[i]? = some x) ∧ ∀ ws, SqT K H b ws → ws[i]? = some y,
    fun i H => ∃ xs ys : List V, (xs.length ≤ i ∨ ys.length ≤ i) ∧ SqL K H a xs ∧ SqT K H b ys⟩
abbrev tnM (a b z TI TO i1 i2 : Addr) (i : Nat) (h : Heap) : Prop :=
  (IsZip h z TI TO .none ∧ IsPair h TI (.ref i1) (.ref i2)) ∧ (∃ x y, IsPair h TO x y) ∧ h.IsListIter i1 a i ∧ h.IsTupleIter i2 b i
theorem mem5 {c z TI TO i1 i2 : Addr} (q : c ∈ [z, TI, TO, i1, i2]) : c = z ∨ c = TI ∨ c = TO ∨ c = i1 ∨ c = i2 := by simpa using q
theorem all5 {p : Addr → Prop} {c z TI TO i1 i2 : Addr} (q : c ∈ [z, TI, TO, i1, i2]) (a1 : p z) (a2 : p TI) (a3 : p TO) (a4 : p i1) (a5 : p i2) : p c := by
  rcases mem5 q with q | q | q | q | q <;> (rw [q]; assumption)
theorem turn_zipM {P : Program} {w : World} {K : PySem.W.Frag} {elts : List Expr} {kk : Nat} {tpos : Pos} {a b z TI TO i1 i2 : Addr} (D : ZipApart z TI TO i1 i2 a b) :
    Turn P w K (.Tuple elts kk tpos) (ItzM K a b) [z, TI, TO, i1, i2] z (tnM a b z TI TO i1 i2) where
  mem := List.mem_cons_self ..
  obj i h st c hc := by
    obtain ⟨⟨y1, y2⟩, ⟨x, y, y3⟩, ⟨o1, e1, _, d1⟩, o2, e2, _, d2⟩ := st
    exact all5 (p := fun c => ∃ o, h.get? c = some o ∧ ∀ v : Option Value, o.data ≠ Data.cell v) hc ⟨_, y1, fun v q => nomatch q⟩ ⟨_, y2, fun v q => nomatch q⟩ ⟨_, y3, fun v q => nomatch q⟩ ⟨o1, e1, fun v q => nomatch d1.symm.trans q⟩ ⟨o2, e2, fun v q => nomatch d2.symm.trans q⟩
  keep i h h' st k := by
    obtain ⟨⟨y1, y2⟩, ⟨x, y, y3⟩, y4, o2, e2, r2⟩ := st
    exact ⟨⟨k z (by simp) _ y1, k TI (by simp) _ y2⟩, ⟨x, y, k TO (by simp) _ y3⟩, y4.at fun o q => k i1 (by simp) o q, o2, k i2 (by simp) o2 e2, r2⟩
  item := by
    intro X hP hw hK hc i pins s σ H E I hf st hg
    subst hP hw hK; obtain ⟨⟨y1, y2⟩, ⟨x0, y0, y3⟩, y4, y5⟩ := st; obtain ⟨xs, ys, q1, q2, x, y, hx, hy⟩ := hg
    obtain ⟨u1, r1, p1, _⟩ := I.list q1; obtain ⟨u2, r2, p2, _⟩ := I.tuple q2; obtain ⟨u, hu, ru⟩ := r1.get hx; obtain ⟨v, hv, rv⟩ := r2.get hy
    have zl : z < s.heap.objs.size := Heap.lt_size y1
    refine zw_next D (wkr_lst D.l1i1 u1.toArray) (wkr_tup D.l2i2 u2.toArray) y1 y2 y3 ⟨y4, p1.isList⟩ ⟨y5, p2⟩ (x := u) (y := v) (by simpa using hu) (by simpa using hv) fun g ⟨b1, b2, b3, b4, b5, b6, b7⟩ => ?_
    refine ⟨_, rfl, wpAny_letOwnedTupleGo_zip (s := { s with heap := g }) b1 fun g' c1 sb => ?_⟩
    have pr : g'.get? s.heap.objs.size = some { cls := .type "tuple", data := .seq #[u, v] } := (sb.2 _ (Nat.ne_of_gt zl)).trans b5
    have fresh : ObjOk X.prog X.w (upd H s.heap.objs.size (.tup [x, y])) g' s.heap.objs.size (.tup [x, y]) := ⟨by show 2 ≤ sizeLine; decide, [u, v], .cons ru (.cons rv .nil), ⟨_, pr, rfl, _, rfl⟩⟩
    have I1 : Inv X pins σ (upd H s.heap.objs.size (.tup [x, y])) { s with heap := g' } := I.turnedNew (t' := s.toks) (ch := [z, TI, TO, i1, i2])
      (fun c o hb q => (sb.2 c (fun e => hb (by simp [e]))).trans (b7 c o (fun e => hb (by simp [e])) (fun e => hb (by simp [e])) (fun e => hb (by simp [e])) (fun e => hb (by simp [e])) q)) hf (Nat.le_refl _) fresh
    refine ⟨.ref s.heap.objs.size, _, I1, rfl, ⟨_, x, y, rfl, ⟨I.hok.fresh (Nat.le_refl _), rfl⟩, fun l hl => by rw [I.list_inj hl q1]; exact hx, fun l hl => by rw [I.tuple_inj hl q2]; exact hy⟩, ⟨⟨c1, ?_⟩, ⟨u, v, ?_⟩, ?_, ?_⟩, fun c hcm => ?_⟩
    · exact (sb.2 _ D.TIz).trans (b7 _ _ D.TIz D.TITO D.TIi1 D.TIi2 y2)
    · exact (sb.2 _ D.TOz).trans b2
    · exact b3.1.at fun o q => (sb.2 _ D.i1z).trans q
    · obtain ⟨o, q, r⟩ := b4.1
      exact ⟨o, (sb.2 _ D.i2z).trans q, r⟩
    · have hl : c < s.heap.objs.size := by
        obtain ⟨_, e1, _⟩ := y4; obtain ⟨_, e2, _⟩ := y5
        exact all5 (p := fun c => c < s.heap.objs.size) hcm zl (Heap.lt_size y2) (Heap.lt_size y3) (Heap.lt_size e1) (Heap.lt_size e2)
      rw [upd_ne (Nat.ne_of_lt hl)]; exact (hf c hcm).1
  done := by
    intro X hP hw hK hc i pins s σ H E I hf st hg
    subst hP hw hK; obtain ⟨⟨y1, y2⟩, ⟨x0, y0, y3⟩, y4, y5⟩ := st; obtain ⟨xs, ys, hend, q1, q2⟩ := hg
    obtain ⟨u1, r1, p1, _⟩ := I.list q1; obtain ⟨u2, r2, p2, _⟩ := I.tuple q2
    have n1 := r1.length
    have n2 := r2.length
    refine zw_stop (I.ok.hd hc) D (wkr_lst D.l1i1 u1.toArray) (wkr_tup D.l2i2 u2.toArray) y1 y2 y3 ⟨y4, p1.isList⟩ ⟨y5, p2⟩ (hend.imp (fun q => by simp; omega) fun q => by simp; omega) fun g k => ?_
    exact ⟨rfl, I.turnedL (t' := s.toks) (ch := [z, TI, TO, i1, i2]) (fun c o hb q => k c o (fun e => hb (by simp [e])) (fun e => hb (by simp [e])) (fun e => hb (by simp [e])) (fun e => hb (by simp [e])) q) hf⟩
  self A i s Q E st h := wpAny_pyIter_zip st.1.1 h
abbrev hM1 (h : Heap) (l : Addr) : Heap := h.push { data := .fields #[.ref l, .int 0 0], cls := .type "list_iterator" }
abbrev hM2 (h : Heap) (l m : Addr) : Heap := (hM1 h l).push { data := .fields #[.ref m, .int 0 0], cls := .type "tuple_iterator" }
abbrev hM3 (h : Heap) (l m : Addr) : Heap := (hM2 h l m).push { data := .seq #[.ref h.objs.size, .ref (hM1 h l).objs.size], cls := .type "tuple" }
abbrev hM4 (h : Heap) (l m : Addr) : Heap := (hM3 h l m).push { data := .seq #[.none, .none], cls := .type "tuple" }
abbrev hM5 (h : Heap) (l m : Addr) : Heap := (hM4 h l m).push { data := .fields #[.none, .bool false, .bool false, .ref (hM2 h l m).objs.size, .ref (hM3 h l m).objs.size], cls := .type "zip" }
theorem meets_zipM (l m : Addr) (xs ys : Array Value) : Meets (Builtin.«zip.__new__» ⟨[.type "zip", .ref l, .ref m], []⟩) (fun _ R s => (s.heap.IsList l xs ∧ s.heap.IsTuple m ys) ∧
      R (.ok (.ret (.ref (hM4 s.heap l m).objs.size))) { s with heap := hM5 s.heap l m }) :=
  .of_wp fun prog w A R s h => by
    obtain ⟨hp, g, d, tk, os⟩ := s; obtain ⟨⟨h1, h2⟩, h⟩ := h; have sub := sub_zip
    have b1 : Heap.IsList (Shared.heap ⟨hp, g, d, tk, os⟩) l xs := h1
    have b2 : Heap.IsTuple (Shared.heap ⟨hM1 hp l, g, d, tk, os⟩) m ys := Heap.IsTuple.push h2 _
    wp_walk using wpAny_pyIter_list b1, wpAny_pyIter_tuple b2
    exact ⟨_, rfl, h⟩
section
variable {P : Program} {w : World} {A : Around} {E : Value → Shared → Prop} {s : Shared}
theorem call_zipM {l m : Addr} {xs ys : Array Value} {Q : Value → Shared → Prop} (h1 : s.heap.IsList l xs) (h2 : s.heap.IsTuple m ys)
    (go : ∀ g, tnM l m (s.heap.objs.size + 4) (s.heap.objs.size + 2) (s.heap.objs.size + 3) s.heap.objs.size (s.heap.objs.size + 1) 0 g ∧ (∀ c o, s.heap.get? c = some o → g.get? c = some o) → Q (.ref (s.heap.objs.size + 4)) { s with heap := g }) :
    wpAny (model P w) A (call (.type "zip") [.ref l, .ref m]) Q E s := by
  refine callType_new F.called_zip (by decide) (F.typeCall_zip_2 _ _) (F.newCall_zip_2 _ _) (fun obj => F.args_object_init_3 obj _ _) F.entry_zip_new (meets_zipM l m xs ys) ⟨⟨h1, h2⟩, ?_⟩
  have e1 : (hM1 s.heap l).objs.size = s.heap.objs.size + 1 := Heap.size_push ..
  have e2 : (hM2 s.heap l m).objs.size = s.heap.objs.size + 2 := (Heap.size_push ..).trans (by rw [e1])
  have e3 : (hM3 s.heap l m).objs.size = s.heap.objs.size + 3 := (Heap.size_push ..).trans (by rw [e2])
  have e4 : (hM4 s.heap l m).objs.size = s.heap.objs.size + 4 := (Heap.size_push ..).trans (by rw [e3])
  have p5 : (hM5 s.heap l m).get? (hM4 s.heap l m).objs.size = some _ := Heap.get?_push_size _ rfl
  have up (c o) (q : (hM3 s.heap l m).get? c = some o) : (hM5 s.heap l m).get? c = some o := Heap.get?_push_of_some _ (Heap.get?_push_of_some _ q)
  have p4 : (hM5 s.heap l m).get? (hM3 s.heap l m).objs.size = some _ := Heap.get?_push_of_some _ (Heap.get?_push_size _ rfl)
  have p3 : (hM5 s.heap l m).get? (hM2 s.heap l m).objs.size = some _ := up _ _ (Heap.get?_push_size _ rfl)
  have p2 : (hM5 s.heap l m).get? (hM1 s.heap l).objs.size = some _ := up _ _ (Heap.get?_push_of_some _ (Heap.get?_push_size _ rfl))
  have p1 : (hM5 s.heap l m).get? s.heap.objs.size = some _ := up _ _ (Heap.get?_push_of_some _ (Heap.get?_push_of_some _ (Heap.get?_push_size _ rfl)))
  show _ ∧ _; rw [e2, e3, e4] at p5; rw [e1, e2] at p3; rw [e3] at p4; rw [e1] at p2; rw [e4]
  exact ⟨⟨_, p5, rfl⟩, go _ ⟨⟨⟨p5, p3⟩, ⟨_, _, p4⟩, ⟨_, p1, rfl, rfl⟩, _, p2, rfl, rfl⟩, fun c o q => up c o (Heap.get?_push_of_some _ (Heap.get?_push_of_some _ (Heap.get?_push_of_some _ q)))⟩⟩
end
def iZipM (K : PySem.W.Frag) (ta : TA) : TI := fun σ H R => ta σ H fun vs H1 => ∃ a b xs ys, vs = [.ref a, .ref b] ∧ (SqL K H1 a xs ∧ SqT K H1 b ys) ∧ R (ItzM K a b) H1
theorem pi_zipM {X : Cx} {e e2 : Expr} {ta : TA} {p pos tpos : Pos} {elts : List Expr} {kk : Nat} (hg : Gl X "zip") (hm : X.mg "zip" = none) (ha : PA X [e, e2] ta)
    (h1 : starEach [e, e2] X.env = (false, eval e X.env) :: starEach [e2] X.env := by rfl) (h2 : ((backTo pos (starEach [e2] X.env)).any fun x => x.fst) = false := by rfl) :
    PI X (.Tuple elts kk tpos) ((Expr.Name "zip" p).Call [e, e2] [] pos) (iZipM X.K ta) :=
  ⟨fun pins s σ H R I h => Call_ (ld_blt I hg hm PyProof.Rows.boot_zip (PyProof.Rows.callWith_type1 (thn (ha.run pos pins s σ H _ I h) fun us s1 ⟨vs, H1, I1, r1, q1⟩ => by
    obtain ⟨a, b, xs, ys, ex, ⟨q2, q3⟩, q1⟩ := q1; subst ex
    cases r1 with
    | cons r rr =>
      cases rr with
      | cons r' rr =>
        cases rr; cases r; cases r'
        obtain ⟨u1, v1, p1, _⟩ := I1.list q2; obtain ⟨u2, v2, p2, _⟩ := I1.tuple q3; obtain ⟨o2, ho2, _⟩ := id p2
        refine call_zipM p1.isList p2 fun g ⟨st, k⟩ => wpAny_pyIter_zip st.1.1 ?_
        exact ⟨s1.heap.objs.size + 4, _, _, _, H1, rfl, I1.kept (t' := s1.toks) k, turn_zipM (PySem.W.ktu_apart s1.heap.objs.size a b p1.lt (Heap.lt_size ho2)), st, fun c hc =>
          have le : s1.heap.objs.size ≤ c := by
            rcases mem5 hc with q | q | q | q | q <;> rw [q] <;> omega
          I1.fpOk le (I1.hok.fresh le), q1⟩) h1 h2))⟩
section
variable {K : PySem.W.Frag} {d : Wd} {H : Hp} {a b : Addr} {xs ys : List PV} {vs us : List V}
theorem it_zipM (h : LstAt d H a vs) (r : RVs K d H xs vs) (h' : TupAt K d H b us) (r' : RVs K d H ys us) : ItOk (K := K) d H (ItzM K a b) (zipP xs ys) := fun d1 d2 H2 μ2 bb e w => by
  have n1 : LstAt d2 H2 a vs := e.lstAt ⟨h.1, by rw [bb.1]; exact h.2.1, fun q => (bb.2 _ q).elim h.2.2 (by rw [h.1]; simp)⟩
  have n2 : TupAt K d2 H2 b us := e.tupAt (h'.imp (fun z => ⟨z.1, by rw [bb.1]; exact z.2⟩) id)
  have m1 : RVs K d2 H2 xs vs := (r.bars bb).mono e
  have m2 : RVs K d2 H2 ys us := (r'.bars bb).mono e
  refine ⟨fun i z hz => ?_, fun i hi => ⟨vs, us, ?_, n1.sq, n2.sq⟩⟩
  · obtain ⟨x, y, hx, hy, rfl⟩ := zipP_get hz; obtain ⟨v, hv, rv⟩ := m1.get hx; obtain ⟨u, hu, ru⟩ := m2.get hy
    refine ⟨⟨vs, us, n1.sq, n2.sq, v, u, hv, hu⟩, fun t H3 hy => ?_⟩
    obtain ⟨T, x', y', rfl, ⟨hT, rfl⟩, f, g⟩ := hy
    have e1 := f vs n1.sq; have e2 := g us n2.sq
    rw [hv] at e1; cases e1; rw [hu] at e2; cases e2
    exact tup_pair w hT rv ru
  · rw [zipP_length] at hi; rw [← m1.length, ← m2.length]
    omega
def mZipM (m : MA) : MI := fun ρ μ P => m ρ μ fun zs μ1 => match zs with | [.lst xs, .tup ys] => P (zipP xs ys) μ1 | _ => False
instance {t m} [h : FA K t m] : FI K (iZipM K t) (mZipM m) := ⟨fun d σ H ρ μ P R w e q k => by
  refine h.run d σ H ρ μ _ _ w e q fun d1 H1 μ1 zs vs e1 w1 r1 q1 => ?_
  match zs, r1, q1 with
  | [.lst xs, .tup ys], .cons (.lst ha hr) (.cons (.tup ha' hr') .nil), q1 => exact ⟨_, _, _, _, rfl, ⟨ha.sq, ha'.sq⟩, k d1 H1 μ1 _ _ e1 w1 (it_zipM ha hr ha' hr') q1⟩⟩
end
end Fx
namespace Fx
open PySem PySem.Spec PyProof.Rows L2
theorem blkN (N : List Str) (sc : Scope) {X : Cx} {s : Shared} {H : Hp} {scope0 scope : Scope} {c : List (Str × Addr)} {n : Addr} {fp : List Addr} {own : List (Str × Nat)} (hN : X.N = N) (hs : X.env.scope = sc) (h : blkC N (relS scope0 sc) scope own = true) :
    BlkOk (X.blk s H scope0 (compEnvC scope0 c n X.env) fp).N (X.blk s H scope0 (compEnvC scope0 c n X.env) fp).env.scope scope own := by
  subst hN; subst hs
  exact blkOk_by h
end Fx
namespace Fx
open PySem PySem.Spec PyProof.Rows L2 RZ
section
variable {K : PySem.W.Frag} {d d' : Wd} {H H' : Hp} {μ : Store}
theorem WOk.barDc {D : Addr} (w : WOk K d H μ) (h : H D = none) : WOk K ⟨d.am, D :: d.ban⟩ (upd H D (.dK [])) μ := by
  have w1 := (w.barD h).made (D := D) (o := .dK []) List.mem_cons_self (no_tup upd_same)
  have e : upd (upd H D (.lst [])) D (.dK []) = upd H D (.dK []) := by
    funext c
    by_cases q : c = D
    · rw [q, upd_same, upd_same]
    · rw [upd_ne q, upd_ne q, upd_ne q]
  rw [e] at w1
  exact w1
def mDcL (g : MG) (c : MT) (ek ev : ME) (ρ0 : PEnv) (P : List (Key × PV) → Store → Prop) : List PV → List (Key × PV) → Store → Prop
  | [], kvs, μ => P kvs μ
  | x :: xs, kvs, μ => g x ρ0 μ fun ρ1 μ1 => c ρ1 μ1 fun b μ2 => if b = true then ek ρ1 μ2 fun y μ3 => ev ρ1 μ3 fun z μ4 => (match keyP y with | some k => mDcL g c ek ev ρ0 P xs (putP kvs k z) μ4 | none => False) else mDcL g c ek ev ρ0 P xs kvs μ2
theorem putP_len (kvs : List (Key × PV)) (k : Key) (v : PV) : (putP kvs k v).length ≤ kvs.length + 1 := by
  unfold putP
  split
  · rw [List.length_map]; omega
  · rw [List.length_append]; simp
theorem dc_run {wi mi g mg s tt mt tk mk tv mv} {vs : List Nat} [hi : FI K wi mi] [hg : FG K g mg s] [hc : FT K tt mt] [hk : FE K tk mk] [hv : FE K tv mv] {σ : L2.St} {ρ : PEnv} {P : List (Key × PV) → Store → Prop} {Q : VK} (w : WOk K d H μ) (e : REnv K d H ρ σ) (hs : ∀ i ∈ s, i ∈ vs)
    (q : mi ρ μ fun xs μ1 => xs.length ≤ lim ∧ mDcL mg mt mk mv (wipeP ρ vs) P xs [] μ1)
    (fin : ∀ (d1 : Wd) (H1 : Hp) (D : Addr) (dB : Wd) (H' : Hp) (μ' : Store) (kvs : List (Key × PV)) (ws : List (Key × V)), Ext d H d1 H1 → H1 D = none → D ∉ d1.ban → Ext ⟨d1.am, D :: d1.ban⟩ H1 dB H' → WOk K dB H' μ' → H' D = some (.dK ws) → RKs K dB H' kvs ws → P kvs μ' → Q (.ref D) H') :
    tDc wi g tt tk tv vs σ H Q := by
  refine hi.run d σ H ρ μ _ _ w e q fun d1 H1 μ1 J xs e1 w1 it ⟨hz, q1⟩ => ?_
  intro D hD
  have bD : Bars d1 ⟨d1.am, D :: d1.ban⟩ H1 := ⟨rfl, fun x q => (List.mem_cons.mp q).elim (fun z => .inr (by rw [z]; exact hD)) .inl⟩
  have envB : REnv K ⟨d1.am, D :: d1.ban⟩ H1 (wipeP ρ vs) (wipe σ vs) := ((e.mono e1).bars bD).wipe vs
  have lay0 : Ext ⟨d1.am, D :: d1.ban⟩ H1 ⟨d1.am, D :: d1.ban⟩ (upd H1 D (.dK [])) := ⟨⟨[], by simp, fun p hp => by simp at hp⟩, rfl, fun b u e _ => by rw [upd_ne (ne_of_none e hD)]; exact e⟩
  refine ⟨fun i m H' => ∃ dB μ' kvs ws, Ext ⟨d1.am, D :: d1.ban⟩ H1 dB H' ∧ WOk K dB H' μ' ∧ H' D = some (.dK ws) ∧ RKs K dB H' kvs ws ∧ i + m = xs.length ∧ kvs.length ≤ i ∧ mDcL mg mt mk mv (wipeP ρ vs) P (xs.drop i) kvs μ',
    ⟨xs.length, _, μ1, [], [], lay0, w1.barDc hD, upd_same, RKs.nil, by omega, Nat.le_refl _, by simpa using q1⟩, fun i m H' hW => ?_⟩
  obtain ⟨dB, μ', kvs, ws, eB, wB, hDv, rA, em, hal, q2⟩ := hW
  have hDban : D ∈ dB.ban := by rw [eB.ban]; exact List.mem_cons_self
  obtain ⟨itg, its⟩ := it _ dB H' μ' bD eB wB
  cases hx : xs[i]? with
  | none =>
    have hle : xs.length ≤ i := List.getElem?_eq_none_iff.mp hx
    rw [List.drop_of_length_le hle] at q2
    exact .inl ⟨its i hle, fin d1 H1 D dB H' μ' kvs ws e1 hD (w1.notban hD) eB wB hDv rA q2⟩
  | some x =>
    have hlt : i < xs.length := (List.getElem?_eq_some_iff.mp hx).1
    rw [drop_cons hx] at q2
    obtain ⟨go, yl⟩ := itg i x hx
    refine .inr ⟨go, fun H3 => ∃ dB μ' kvs ws, Ext ⟨d1.am, D :: d1.ban⟩ H1 dB H3 ∧ WOk K dB H3 μ' ∧ H3 D = some (.dK ws) ∧ RKs K dB H3 kvs ws ∧ kvs.length ≤ i + 1 ∧ mDcL mg mt mk mv (wipeP ρ vs) P (xs.drop (i + 1)) kvs μ', fun H3 hN => ?_, fun v H3 hy => ?_⟩
    · obtain ⟨a1, a2, a3, a4, a5, a6, a7, a8, a9, a10⟩ := hN
      exact ⟨m - 1, by omega, a1, a2, a3, a4, a5, a6, a7, a8, by omega, a9, a10⟩
    · obtain ⟨ey, wy, ry⟩ := yl v H3 hy
      refine hg.run dB (wipe σ vs) H3 (wipeP ρ vs) μ' x v _ _ wy (envB.mono (eB.trans ey)) ry q2 fun d4 σ4 H4 ρ4 μ4 e4 w4 ee4 hl4 hs4 q4 => ⟨wipe_same hl4 hs4 hs, ?_⟩
      refine hc.run d4 σ4 H4 ρ4 μ4 _ _ w4 ee4 q4 fun d5 H5 μ5 b e5 w5 q5 => ?_
      have nD : D ∉ dB.am := (wB.ban D hDban).2
      have E5 : Ext dB H' d5 H5 := (ey.trans e4).trans e5
      have rk5 : RKs K d5 H5 kvs ws := rA.mono E5
      cases b
      · exact ⟨d5, μ5, kvs, ws, eB.trans E5, w5, E5.keep _ _ hDv nD, rk5, by omega, q5⟩
      · refine hk.run d5 σ4 H5 ρ4 μ5 _ _ w5 (ee4.mono e5) q5 fun d6 H6 μ6 y u e6 w6 r6 q6 => ?_
        refine hv.run d6 σ4 H6 ρ4 μ6 _ _ w6 ((ee4.mono e5).mono e6) q6 fun d7 H7 μ7 z u2 e7 w7 r7 q7 => ?_
        have E7 : Ext dB H' d7 H7 := (E5.trans e6).trans e7
        have hD7 : H7 D = some (.dK ws) := E7.keep _ _ hDv nD
        have ban7 : D ∈ d7.ban := by rw [E7.ban]; exact hDban
        cases ek : keyP y with
        | none => rw [ek] at q7; exact q7.elim
        | some k =>
          rw [ek] at q7
          have rk7 : RKs K d7 H7 (putP kvs k z) (putK ws k u2) := RKs.put r7 (rA.mono E7)
          have rk8 : RKs K d7 (upd H7 D (.dK (putK ws k u2))) (putP kvs k z) (putK ws k u2) := ⟨rk7.1, rk7.2.made ban7 (no_tupK hD7)⟩
          have hlen : ws.length = kvs.length := by have := congrArg List.length rA.1; simpa using this
          have hpl := putP_len kvs k z
          refine ⟨ws, k, keyP_rv r6 ek, hD7, by rw [hlen]; exact lim_lt' (by omega), d7, μ7, putP kvs k z, putK ws k u2, ?_, w7.made ban7 (no_tupK hD7), upd_same, rk8, by omega, q7⟩
          have E8 := eB.trans E7
          exact ⟨E8.am, E8.ban, fun b o hb hn => by rw [upd_ne (ne_of_none hb hD)]; exact E8.keep b o hb hn⟩
theorem dc_store {d1 dB : Wd} {H1 : Hp} {D : Addr} {kvs : List (Key × PV)} {ws : List (Key × V)} (e1 : Ext d H d1 H1) (hD : H1 D = none) (hDn : D ∉ d1.ban) (eB : Ext ⟨d1.am, D :: d1.ban⟩ H1 dB H') (w : WOk K dB H' μ) (hv : H' D = some (.dK ws)) (r : RKs K dB H' kvs ws) :
    Ext d H ⟨dB.am ++ [D], d1.ban⟩ H' ∧ WOk K ⟨dB.am ++ [D], d1.ban⟩ H' (μ ++ [.dk kvs]) ∧ RV K ⟨dB.am ++ [D], d1.ban⟩ H' (.mr μ.length) (.ref D) := by
  have hs : ∀ b ∈ d1.ban, b ∈ dB.ban := fun b hb => by rw [eB.ban]; exact List.mem_cons_of_mem _ hb
  have hb : D ∈ dB.ban := by rw [eB.ban]; exact List.mem_cons_self
  have hn := (w.ban D hb).2
  have hm : MOK K ⟨dB.am ++ [D], d1.ban⟩ H' D (.dk kvs) := ⟨ws, hv, r.1, r.2.pushed hb (no_tupK hv) hs⟩
  refine ⟨e1.trans ⟨?_, rfl, eB.keep⟩, w.pushed hb (no_tupK hv) hs hDn hm, .mr ?_⟩
  · obtain ⟨ex, q, f⟩ := eB.am
    refine ⟨ex ++ [D], by rw [q, List.append_assoc], fun p hp => ?_⟩
    rcases List.mem_append.mp hp with z | z
    · exact f p z
    · have e := List.mem_singleton.mp z
      subst e
      refine ⟨hD, fun z => hn ?_⟩
      rw [q]; exact List.mem_append_left _ z
  · show (dB.am ++ [D])[μ.length]? = some D
    rw [← w.len, List.getElem?_append_right (Nat.le_refl _)]
    simp
def mDc (mi : MI) (g : MG) (c : MT) (ek ev : ME) (s vs : List Nat) : ME := fun ρ μ P => (∀ i ∈ s, i ∈ vs) ∧ mi ρ μ fun xs μ1 => xs.length ≤ lim ∧ mDcL g c ek ev (wipeP ρ vs) (fun kvs μ2 => P (.mr μ2.length) (μ2 ++ [.dk kvs])) xs [] μ1
instance {wi mi g mg s tt mt tk mk tv mv vs} [hi : FI K wi mi] [hg : FG K g mg s] [hc : FT K tt mt] [hk : FE K tk mk] [hv : FE K tv mv] : FE K (tDc wi g tt tk tv vs) (mDc mi mg mt mk mv s vs) := ⟨fun d σ H ρ μ P Q w e q k => by
  refine dc_run w e q.1 q.2 fun d1 H1 D dB H' μ' kvs ws e1 hD hDn eB w' hv r p => ?_
  obtain ⟨x1, x2, x3⟩ := dc_store e1 hD hDn eB w' hv r
  exact k _ H' _ _ _ x1 x2 x3 p⟩
end
section
variable {K : PySem.W.Frag}
def mLenSetL (m : ME) : ME := fun ρ μ P => m ρ μ fun x μ1 => match x with | .lst ys => (match intsP ys with | some ns => ns.length ≤ 4000 ∧ ∀ ms : List Int, ms.Nodup → (∀ k : Int, k ∈ ms ↔ k ∈ ns) → P (.int (ms.length : Nat)) μ1 | none => False) | _ => False
end
end Fx
namespace Fx
open PySem PySem.Spec PyProof.Rows L2 RZ
end Fx
namespace Fx
open PySem PySem.Spec PyProof.Rows L2 RZ
abbrev SB := V × PyData × PV
def leB (a b : SB) : Bool := PySem.W.dataLe false (fun x : SB => x.2.1) a b
def rSortX (K : PySem.W.Frag) : List V → Hp → VK → Prop := fun vs H Q => ∃ (a : Addr) (bs : List SB), vs = [V.ref a] ∧ SqL K H a (bs.map (·.1)) ∧ (∀ b ∈ bs, Dp K H b.1 b.2.1) ∧ PySem.W.AllAlike (bs.map (·.2.1)) ∧ PySem.W.Sortable (bs.map (·.2.1)) ∧ bs.length < 64 ∧ (∀ b ∈ bs, b.2.1.depth ≤ 60) ∧
  ∀ p : Addr, H p = none → Q (.ref p) (upd H p (.lst ((bs.mergeSort leB).map (·.1))))
theorem each_of {R : Value → SB → Prop} : ∀ {bs : List SB} {us : List Value}, Vals (bs.map (·.1)) us → (∀ b ∈ bs, ∀ u, RelV b.1 u → R u b) → PySem.W.EachIs R us bs
  | [], us, h, _ => by cases h; exact .nil
  | b :: bs, us, h, hR => by
    cases h with
    | cons h1 h2 => exact .cons (hR b List.mem_cons_self _ h1) (each_of h2 fun c hc => hR c (List.mem_cons_of_mem _ hc))
theorem vals_each : ∀ {out : List Value} {bs : List SB}, PySem.W.EachIs (fun u (b : SB) => RelV b.1 u) out bs → Vals (bs.map (·.1)) out
  | _, _, .nil => .nil
  | _, _, .cons h t => .cons h (vals_each t)
theorem cr_sortX {X : Cx} (hu : X.A.units + 64 < cLine) : CallR X (.builtin "sorted") (rSortX X.K) := by
  intro pins s σ H vs us Q I r h
  obtain ⟨a, bs, rfl, hs, hd, hal, hsr, h64, hdp, q⟩ := h
  obtain ⟨its, rv, hl, _⟩ := I.list hs
  rw [Vals.ref1 r]
  have hrd : ∀ b ∈ bs, ∀ u, RelV b.1 u → ∃ as, Reads s.heap u b.2.1 as := fun b hb u hu => Dp.reads I b.2.1 b.1 u (hd b hb) hu
  have e1 : PySem.W.EachIs (fun u (b : SB) => RelV b.1 u) its bs := each_of rv fun _ _ _ h => h
  have e2 : PySem.W.EachIs (fun u (b : SB) => ∃ as, Reads s.heap u b.2.1 as) its bs := each_of rv hrd
  refine PySem.W.sorted_data (enc := fun b : SB => b.2.1) (by simpa using hl.isList) e1 e2 hal hsr (by rw [sizeLine_eq]; omega) (fun b hb => by have := hdp b hb; omega) fun out ho hE => ?_
  have hlen : ((bs.mergeSort leB).map (·.1)).length ≤ sizeLine := by rw [List.length_map, List.length_mergeSort, sizeLine_eq]; omega
  obtain ⟨ep, he'⟩ := PyProof.Rows.sortedAll_at s.heap its out.toArray
  exact ⟨.ref _, upd H (s.heap.objs.size + 1) (.lst ((bs.mergeSort leB).map (·.1))), I.laid (t' := s.toks) (fun _ _ => PyProof.Rows.sortedAll_old) (Nat.le_succ _) ⟨hlen, out, ep, vals_each hE, by simpa using he'⟩, rfl, q _ (I.hok.fresh (Nat.le_succ _))⟩
end Fx
namespace Fx
open PySem PySem.Spec PyProof.Rows L2 RZ
section
variable {K : PySem.W.Frag} {d : Wd} {H : Hp} {μ : Store}
def datPs' : List PV → Option (List PyData)
  | [] => some []
  | y :: ys => match datP y, datPs' ys with | some e, some es => some (e :: es) | _, _ => none
def leX (x y : PV) : Prop := ∀ e f, datP x = some e → datP y = some f → PySem.W.dataLt f e = false
def pSortX : MB := fun xs μ P => match xs with
  | [.lst ys] => (match datPs' ys with | some es => (PySem.W.AllAlike es ∧ PySem.W.Sortable es ∧ ys.length < 64 ∧ ∀ e ∈ es, e.depth ≤ 60) ∧ ∀ zs : List PV, zs.Perm ys → zs.Pairwise leX → P (.lst zs) μ | none => False)
  | _ => False
theorem sb_of : ∀ {ys : List PV} {vs : List V} {es : List PyData}, RVs K d H ys vs → datPs' ys = some es → ∃ bs : List SB, bs.map (·.1) = vs ∧ bs.map (·.2.1) = es ∧ bs.map (·.2.2) = ys ∧ ∀ b ∈ bs, Dp K H b.1 b.2.1 ∧ RV K d H b.2.2 b.1 ∧ datP b.2.2 = some b.2.1
  | [], _, _, .nil, h => by
    simp only [datPs', Option.some.injEq] at h
    subst h
    exact ⟨[], rfl, rfl, rfl, by simp⟩
  | y :: ys, _, _, .cons (v := v) r t, h => by
    unfold datPs' at h
    cases e1 : datP y with
    | none => rw [e1] at h; cases h
    | some e =>
      cases e2 : datPs' ys with
      | none => rw [e1, e2] at h; cases h
      | some fs =>
        rw [e1, e2] at h
        simp only [Option.some.injEq] at h
        subst h
        obtain ⟨bs, b1, b2, b3, b4⟩ := sb_of t e2
        refine ⟨(v, e, y) :: bs, by rw [List.map_cons, b1], by rw [List.map_cons, b2], by rw [List.map_cons, b3], fun b hb => ?_⟩
        rcases List.mem_cons.mp hb with rfl | hb
        · exact ⟨dat_dp r e1, r, e1⟩
        · exact b4 b hb
theorem rvs_pick : ∀ {L : List SB}, (∀ b ∈ L, RV K d H b.2.2 b.1) → RVs K d H (L.map (·.2.2)) (L.map (·.1))
  | [], _ => .nil
  | b :: L, h => .cons (h b List.mem_cons_self) (rvs_pick fun c hc => h c (List.mem_cons_of_mem _ hc))
instance : FB K (rSortX K) pSortX := ⟨fun d H μ xs vs P Q w r q k => by
  match xs, r, q with
  | [.lst ys], .cons (.lst (a := a) (vs := us) h1 h2) .nil, q =>
    unfold pSortX at q
    simp only at q
    cases e : datPs' ys with
    | none => rw [e] at q; exact q.elim
    | some es =>
      rw [e] at q
      obtain ⟨⟨q1, q2, q3, q4⟩, q⟩ := q
      obtain ⟨bs, b1, b2, b3, b4⟩ := sb_of h2 e
      subst b1
      subst b2
      have hl : bs.length = ys.length := by rw [← b3, List.length_map]
      refine ⟨a, bs, rfl, h1.sq, fun b hb => (b4 b hb).1, q1, q2, by omega, fun b hb => q4 _ (List.mem_map.mpr ⟨b, hb, rfl⟩), fun p hn => ?_⟩
      have hp : (bs.mergeSort leB).Perm bs := List.mergeSort_perm _ _
      have hs : (bs.mergeSort leB).Pairwise fun a b => leB a b = true := List.pairwise_mergeSort (fun a b c h1 h2 => (PySem.W.sortLe_total _ false _).trans a b c h1 h2) (fun a b => by
        have := (PySem.W.sortLe_total (PyProof.Rows.listOrd PyProof.Rows.itemOrd) false fun x : SB => PySem.W.keyToks x.2.1).total a b
        first | exact this | simpa using this) _
      have rv : RVs K d H ((bs.mergeSort leB).map (·.2.2)) ((bs.mergeSort leB).map (·.1)) := rvs_pick fun b hb => (b4 b (hp.mem_iff.mp hb)).2.1
      refine k d _ μ _ _ (Ext.lay w hn) (w.lay hn) (lay_lst w rv hn) (q _ (by rw [← b3]; exact hp.map _) ?_)
      rw [List.pairwise_map]
      refine (List.Pairwise.and_mem.mp hs).imp fun {x y} h e f he hf => ?_
      obtain ⟨mx, my, h⟩ := h
      rw [(b4 x (hp.mem_iff.mp mx)).2.2] at he
      rw [(b4 y (hp.mem_iff.mp my)).2.2] at hf
      cases he; cases hf
      have h : (!PySem.W.dataLt y.2.1 x.2.1) = true := h
      simpa using h⟩
end
end Fx
namespace Fx
open PySem PySem.Spec PyProof.Rows L2 RZ
section
variable {K : PySem.W.Frag} {d d' : Wd} {H H' : Hp} {a b : Addr} {vs us : List V} {xs ys : List PV} {μ : Store}
def mBits (mo : ME) : ME := fun ρ μ P => mo ρ μ fun x μ1 => match x with | .int i => P (.int (Builtin.Int.intBits i : Nat)) μ1 | _ => False
instance {to mo} [ho : FE K to mo] : FE K (tBits to) (mBits mo) := ⟨fun d σ H ρ μ P Q w e q k => by
  refine ho.run d σ H ρ μ _ _ w e q fun d1 H1 μ1 x v e1 w1 r1 q1 => ?_
  cases r1 with
  | int i => exact ⟨i, rfl, k d1 H1 μ1 _ _ e1 w1 (.int _) q1⟩
  | _ => exact q1.elim⟩
def iEnumM (K : PySem.W.Frag) (ta : TA) : TI := iEnumS K ta
theorem pi_enumM {X : Cx} {e1 : Expr} {ta : TA} {p pos tpos : Pos} {es : List Expr} {k1 : Nat} (hg : Gl X "enumerate") (hm : X.mg "enumerate" = none) (ha : PA X [e1] ta) (hs : starEach [e1] X.env = [(false, eval e1 X.env)] := by rfl) :
    PI X (.Tuple es k1 tpos) (.Call (.Name "enumerate" p) [e1] [] pos) (iEnumM X.K ta) := pi_enumS hg hm ha hs
def mEnumC (m : MA) : MIC := fun ρ μ P => m ρ μ fun xs μ1 => match xs with | [.mr n] => (match μ1[n]? with | some (.lst ys) => P (enumP 0 ys) (fun μ2 => μ2[n]? = some (.lst ys)) μ1 | _ => False) | _ => False
instance {t m} [h : FA K t m] : FC K (iEnumM K t) (mEnumC m) := ⟨fun d σ H ρ μ P R w e q k => by
  refine h.run d σ H ρ μ _ _ w e q fun d1 H1 μ1 xs vs e1 w1 r1 q1 => ?_
  match xs, r1, q1 with
  | [.mr n], .cons (.mr (a := a) h1) .nil, q1 =>
    simp only at q1
    cases e2 : μ1[n]? with
    | none => rw [e2] at q1; exact q1.elim
    | some m =>
      cases m with
      | dk _ => rw [e2] at q1; exact q1.elim
      | fd _ _ _ => rw [e2] at q1; exact q1.elim
      | tk _ => rw [e2] at q1; exact q1.elim
      | ft _ _ _ => rw [e2] at q1; exact q1.elim
      | lst ys =>
        rw [e2] at q1
        obtain ⟨us, hq, rv⟩ := w1.obj h1 e2
        refine ⟨a, rfl, .inl ⟨⟨us, .of hq⟩, k d1 H1 μ1 _ _ _ e1 w1 (fun d2 d3 H3 μ3 bb ee w3 hC => ?_) q1⟩⟩
        have h3 : d3.am[n]? = some a := ee.at (by rw [bb.1]; exact h1)
        obtain ⟨ws, hq3, rw3⟩ := w3.obj h3 hC
        refine ⟨fun i x hx => ?_, fun i hi => ⟨ws, .of hq3, by rw [enumP_length] at hi; rw [← rw3.length]; exact hi⟩⟩
        obtain ⟨y, hy, rfl⟩ := enumP_get hx
        obtain ⟨v, hv, rv'⟩ := rw3.get hy
        refine ⟨⟨ws, v, .of hq3, hv⟩, fun u H4 hyl => ?_⟩
        obtain ⟨T, v', rfl, hT, rfl, f⟩ := hyl
        have e9 := f ws (.of hq3)
        rw [hv] at e9; cases e9
        rw [Nat.zero_add]
        exact tup_pair w3 hT (.int _) rv'⟩
end
end Fx
namespace Fx
open PySem PySem.Spec PyProof.Rows L2 RZ
theorem pik_seqM {X : Cx} (K : PySem.W.Frag) (h : X.K = K) {tg l : Expr} {tl : TE} (hl : PE X l tl) : PI X tg l (iSeqM K tl) := h ▸ pi_seqM hl
end Fx
namespace Fx
open PySem PySem.Spec PyProof.Rows L2 RZ MR
theorem and_pw2 {n : Nat} (h : 0 < n) : decide (Builtin.bitAnd ((n : Nat) : Int) (((n : Nat) : Int) - 1) = 0) = pw2 n := by
  unfold pw2
  refine decide_eq_decide.mpr ?_
  rw [show ((n : Nat) : Int) - 1 = ((n - 1 : Nat) : Int) by omega]
  constructor
  · intro z
    exact Int.ofNat_inj.mp z
  · intro z
    show ((n &&& (n - 1) : Nat) : Int) = 0
    rw [z]; rfl
theorem bits_of {n : Nat} (h : 0 < n) : Builtin.Int.intBits ((n : Nat) : Int) = n.log2 + 1 := by
  unfold Builtin.Int.intBits
  rw [if_neg (show ¬ (((n : Nat) : Int) == 0) = true by simpa using (show ((n : Nat) : Int) ≠ 0 by omega))]
  rfl
theorem within_bits {d t : Nat} (h : 0 < d) : (pw2 d && decide ((Builtin.Int.intBits ((d : Nat) : Int) : Int) ≤ (t : Int) + 1)) = decide (d ∣ 2 ^ t) := by
  by_cases c : pw2 d = true
  · obtain ⟨e, rfl⟩ := (pw2_iff h).mp c
    rw [c, Bool.true_and, bits_of h, Nat.log2_two_pow]
    refine decide_eq_decide.mpr ?_
    constructor
    · intro z
      exact Nat.pow_dvd_pow 2 (by omega)
    · intro z
      have := (Nat.pow_dvd_pow_iff_le_right (by decide : 1 < 2)).mp z
      omega
  · have hf : pw2 d = false := by simpa using c
    rw [hf, Bool.false_and]
    refine (decide_eq_false fun z => c ?_).symm
    obtain ⟨k, _, hk⟩ := dvd_two z
    exact (pw2_iff h).mpr ⟨k, hk⟩
def gmx (l : List Rat) : Rat := l.foldl (fun f x => if f < x then x else f) 0
theorem gmx_from : ∀ (l : List Rat) (f : Rat), (∀ x ∈ l, x ≤ l.foldl (fun f x => if f < x then x else f) f) ∧ f ≤ l.foldl (fun f x => if f < x then x else f) f ∧ (l.foldl (fun f x => if f < x then x else f) f = f ∨ l.foldl (fun f x => if f < x then x else f) f ∈ l)
  | [], f => ⟨by simp, Rat.le_refl, .inl rfl⟩
  | a :: l, f => by
    obtain ⟨h1, h2, h3⟩ := gmx_from l (if f < a then a else f)
    have ha : a ≤ (if f < a then a else f) ∧ f ≤ (if f < a then a else f) := by split <;> constructor <;> grind
    simp only [List.foldl_cons]
    refine ⟨fun x hx => ?_, Rat.le_trans ha.2 h2, ?_⟩
    · rcases List.mem_cons.mp hx with rfl | hx
      · exact Rat.le_trans ha.1 h2
      · exact h1 x hx
    · rcases h3 with h3 | h3
      · rw [h3]
        split
        · exact .inr List.mem_cons_self
        · exact .inl rfl
      · exact .inr (List.mem_cons_of_mem _ h3)
theorem gmx_snoc (l : List Rat) (x : Rat) : gmx (l ++ [x]) = if gmx l < x then x else gmx l := by
  unfold gmx
  rw [List.foldl_append]
  rfl
theorem gmx_le {l m : List Rat} (h : ∀ x ∈ l, ∃ y ∈ m, x ≤ y) : gmx l ≤ gmx m := by
  obtain ⟨_, b, c⟩ := gmx_from l 0
  obtain ⟨a, b2, _⟩ := gmx_from m 0
  rcases c with c | c
  · unfold gmx; rw [c]; exact b2
  · obtain ⟨y, hy, hl⟩ := h _ c
    exact Rat.le_trans hl (a y hy)
theorem gmx_sm {n : Nat} {l : List Rat} (h : ∀ x ∈ l, Sm n x) (hn : 1 ≤ n) : Sm n (gmx l) := by
  obtain ⟨_, _, c⟩ := gmx_from l 0
  rcases c with c | c
  · unfold gmx
    rw [c]
    obtain ⟨k, rfl⟩ := Nat.exists_eq_add_of_le hn
    rw [Nat.add_comm]
    exact sm_zero
  · exact h _ c
theorem rab_if (x y : Rat) : (if y < x then x - y else y - x) = rab (x - y) := by
  unfold rab
  split <;> split <;> grind
theorem flr_shl (q : Rat) (t : Nat) : (q.num * 2 ^ ((t : Int)).toNat).fdiv (q.den : Int) = flr q t := by
  unfold flr
  rw [Int.toNat_natCast, Int.fdiv_eq_ediv_of_nonneg _ (by omega), Int.natCast_pow]
  rfl
theorem rsd_frac (q : Rat) (t : Nat) : Rat.divInt (q.num * 2 ^ ((t : Int)).toNat - flr q t * (q.den : Int)) (q.den : Int) = rsd q t := by
  have hd := q.den_pos
  have e1 := mul_den q
  have e2 : (((q.den : Nat) : Int) : Rat) = ((q.den : Nat) : Rat) := rfl
  have e3 : ((q.den : Nat) : Rat) ≠ 0 := nat_ne hd
  have e4 : ((2 ^ ((t : Int)).toNat : Int) : Rat) = ((2 ^ t : Nat) : Rat) := by
    rw [Int.toNat_natCast, show (2 : Int) ^ t = ((2 ^ t : Nat) : Int) by rw [Int.natCast_pow]; rfl]
    rfl
  rw [Rat.divInt_eq_div, Rat.intCast_sub, Rat.intCast_mul, Rat.intCast_mul, ← e1, e2, e4]
  unfold rsd
  generalize ((q.den : Nat) : Rat) = d at *
  generalize ((2 ^ t : Nat) : Rat) = N at *
  grind
theorem den_dvdN {a : Int} {b : Nat} (hb : 0 < b) : (Rat.divInt a (b : Int)).den ∣ b := by
  have e := (divInt_parts a (b : Int) (by omega)).2
  have e2 : (((Rat.divInt a (b : Int)).den : Nat) : Int) ∣ ((b : Nat) : Int) := by
    rw [e]
    refine Int.ediv_dvd_of_dvd ?_
    exact Int.natCast_dvd_natCast.mpr (Nat.gcd_dvd_right _ _)
  exact Int.natCast_dvd_natCast.mp e2
theorem rsd_den (q : Rat) (t : Nat) : (rsd q t).den ∣ q.den := by
  rw [← rsd_frac]
  exact den_dvdN q.den_pos
theorem rsd_sm {q : Rat} {t z : Nat} (hd : q.den < 2 ^ z) : Sm z (rsd q t) := by
  obtain ⟨r0, r1⟩ := rsd_bd q t
  have hdd := Nat.le_of_dvd q.den_pos (rsd_den q t)
  have hn : (rsd q t).num ≤ ((rsd q t).den : Int) := by
    have h1 := (Rat.le_iff (rsd q t) 1).mp (Rat.le_of_lt r1)
    have e1 : (1 : Rat).num = 1 := rfl
    have e2 : (1 : Rat).den = 1 := rfl
    rw [e1, e2] at h1
    omega
  have hn0 := Rat.num_nonneg.mpr r0
  exact ⟨by omega, by omega⟩
theorem rsd_zero {q : Rat} {t : Nat} : rsd q t = 0 ↔ q.den ∣ 2 ^ t := by
  constructor
  · intro h
    have e : q = Rat.divInt (flr q t) (2 ^ t : Nat) := by
      have hP := p2_pos t
      have h2 := dv_cast (flr q t) t
      unfold rsd at h
      generalize Rat.divInt (flr q t) (2 ^ t : Nat) = x at *
      generalize ((2 ^ t : Nat) : Rat) = N at *
      have : (q - x) * N = 0 := by grind
      rcases Rat.mul_eq_zero.mp this with z | z
      · grind
      · rw [z] at hP; exact absurd hP (by decide)
    rw [e]
    exact den_dvdN (Nat.two_pow_pos t)
  · rintro ⟨c, hc⟩
    have e : flr q t = q.num * (c : Int) := by
      unfold flr
      have hd := q.den_pos
      rw [hc, Int.natCast_mul, ← Int.mul_assoc, Int.mul_comm q.num, Int.mul_assoc, Int.mul_ediv_cancel_left _ (by omega)]
    unfold rsd
    rw [e, hc, Rat.natCast_mul, Rat.intCast_mul, ← mul_den q]
    have : (((c : Nat) : Int) : Rat) = ((c : Nat) : Rat) := rfl
    rw [this]
    grind
theorem eqP_frz (q : Rat) (μ : Store) : eqP (frP q) (.tup [.int 0, .int 1]) μ = some (decide (q = 0)) := eqP_fr q 0 μ
theorem eqP_fro (q : Rat) (μ : Store) : eqP (frP q) (.tup [.int 1, .int 1]) μ = some (decide (q = 1)) := eqP_fr q 1 μ
theorem div_frac {p q : Rat} (hq : 0 < q) : 0 < ((p.den : Nat) : Int) * q.num ∧ Rat.divInt (p.num * ((q.den : Nat) : Int)) (((p.den : Nat) : Int) * q.num) = p / q := by
  have hn : 0 < q.num := by
    have := Rat.num_nonneg.mpr (Rat.le_of_lt hq)
    rcases Int.lt_or_le 0 q.num with h | h
    · exact h
    · have : q.num = 0 := by omega
      rw [Rat.num_eq_zero.mp this] at hq
      exact absurd hq (by decide)
  have hpd : 0 < ((p.den : Nat) : Int) := by have := p.den_pos; omega
  refine ⟨Int.mul_pos hpd hn, ?_⟩
  have e1 := mul_den p
  have e2 := mul_den q
  have e3 : ((p.den : Nat) : Rat) ≠ 0 := nat_ne p.den_pos
  have e4 : ((q.den : Nat) : Rat) ≠ 0 := nat_ne q.den_pos
  have c1 : (((p.den : Nat) : Int) : Rat) = ((p.den : Nat) : Rat) := rfl
  have c2 : (((q.den : Nat) : Int) : Rat) = ((q.den : Nat) : Rat) := rfl
  rw [Rat.divInt_eq_div, Rat.intCast_mul, Rat.intCast_mul, ← e1, ← e2, c1, c2]
  have hq0 : q ≠ 0 := by grind
  generalize ((p.den : Nat) : Rat) = a at *
  generalize ((q.den : Nat) : Rat) = b at *
  grind
theorem near_self {t : Nat} {qs : List Rat} (h1 : qs.sum = 1) (h : ∀ q ∈ qs, q.den ∣ 2 ^ t) : NearQ t qs qs := by
  refine ⟨rfl, h1, 1, by decide, Rat.le_refl, fun x hx => ?_⟩
  have hm := List.of_mem_zip (a := x.1) (b := x.2) hx
  have e : x.2 = x.1 := by
    have : ∀ l : List Rat, ∀ x ∈ l.zip l, x.2 = x.1 := fun l => by
      induction l with
      | nil => simp
      | cons a l ih =>
        intro x hx
        rw [List.zip_cons_cons] at hx
        rcases List.mem_cons.mp hx with rfl | hx
        · rfl
        · exact ih x hx
    exact this qs x hx
  have hr := rsd_zero.mpr (h x.1 hm.1)
  refine .inl ⟨?_, by rw [hr]; decide⟩
  rw [e]
  unfold rsd at hr
  grind
theorem near_only {t : Nat} {qs ps : List Rat} (h1 : qs.sum = 1) (h : ∀ q ∈ qs, q.den ∣ 2 ^ t) (hp : NearQ t qs ps) : ps = qs := by
  have e := near_same hp (near_self h1 h)
  have : d2 qs qs = 0 := (d2_eq rfl).mpr rfl
  rw [this] at e
  exact ((d2_eq hp.len).mp e).symm
theorem rsd_fmod (q : Rat) (t : Nat) : Rat.divInt ((q.num * 2 ^ ((t : Int)).toNat).fmod (q.den : Int)) (q.den : Int) = rsd q t := by
  rw [← rsd_frac]
  congr 1
  have h1 := Int.mul_fdiv_add_fmod (q.num * 2 ^ ((t : Int)).toNat) (q.den : Int)
  rw [flr_shl] at h1
  rw [Int.mul_comm] at h1
  omega
theorem sum_pti (t : Nat) (qs : List Rat) : ((qs.map fun q => (q, 0)).map (pti t)).sum = (qs.map fun q => flr q t).sum := by
  rw [List.map_map]
  congr 1
  refine List.map_congr_left fun q _ => ?_
  show flr q t + ((0 : Nat) : Int) = flr q t
  omega
def wpP (t : Nat) (q : Rat) : PV := .tup [.int (flr q t), frP (rsd q t)]
theorem noRefs_wp (t : Nat) (qs : List Rat) : noRefs (qs.map (wpP t)) = true := by
  induction qs with
  | nil => rfl
  | cons q qs ih =>
    rw [List.map_cons]
    show (noRef (wpP t q) && noRefs (qs.map (wpP t))) = true
    rw [ih]
    rfl
theorem eqP_1s {α : Type} (l : List α) (μ : Store) : eqP (.lst (([] : List PV) ++ l.map fun _ => PV.int 1)) (.lst []) μ = some (decide (l = [])) := by
  have h := eqP_li (l.map fun _ => (1 : Int)) [] μ
  rw [List.map_map] at h
  rw [List.nil_append]
  have e : (l.map (PV.int ∘ fun _ => (1 : Int))) = l.map fun _ => PV.int 1 := rfl
  rw [e] at h
  rw [show (PV.lst []) = PV.lst (([] : List Int).map PV.int) from rfl, h]
  congr 1
  refine decide_eq_decide.mpr ?_
  constructor
  · intro z
    have := congrArg List.length z
    rw [List.length_map] at this
    exact List.length_eq_zero_iff.mp this
  · intro z; rw [z]; rfl
theorem none_left {t : Nat} (qs : List Rat) : decide ((qs.filter fun q => !decide (rsd q t = 0)) = []) = decide (∀ q ∈ qs, q.den ∣ 2 ^ t) := by
  refine decide_eq_decide.mpr ?_
  rw [List.filter_eq_nil_iff]
  constructor
  · intro h q hq
    have := h q hq
    simp only [Bool.not_eq_true', decide_eq_false_iff_not, Decidable.not_not] at this
    exact rsd_zero.mp this
  · intro h q hq
    have := rsd_zero.mpr (h q hq)
    simp [this]
end Fx
namespace Fx
open PySem PySem.Spec PyProof.Rows L2 RZ MR
theorem flr_abs {q : Rat} (h0 : 0 ≤ q) (h1 : q ≤ 1) (t : Nat) : (flr q t).natAbs ≤ 2 ^ t := by
  have a : 0 ≤ flr q t := flr_iff.mpr (by rw [Rat.zero_divInt]; exact h0)
  have b := flr_mono h1 t
  rw [flr_one] at b
  omega
theorem zipP_map2 {α β : Type} (f : α → PV) (g : β → PV) : ∀ (a : List α) (b : List β), zipP (a.map f) (b.map g) = (a.zip b).map fun p => .tup [f p.1, g p.2]
  | [], b => by cases b <;> rfl
  | x :: a, [] => by simp [zipP]
  | x :: a, y :: b => by
    simp only [List.map_cons, zipP, List.zip_cons_cons]
    rw [zipP_map2 f g a b]
def ptd : Nat → Nat → List (List Nat)
  | _, 0 => []
  | m, 1 => [[m]]
  | m, n + 2 => (List.range (m + 1)).flatMap fun f => (ptd (m - f) (n + 1)).map fun r => f :: r
theorem ptd_ok : ∀ (n m : Nat), ∀ r ∈ ptd m n, r.length = n ∧ r.sum = m
  | 0, m, r, h => by simp [ptd] at h
  | 1, m, r, h => by
    simp only [ptd, List.mem_singleton] at h
    subst h
    simp
  | n + 2, m, r, h => by
    simp only [ptd] at h
    obtain ⟨f, hf, hr⟩ := List.mem_flatMap.mp h
    obtain ⟨s, hs, rfl⟩ := List.mem_map.mp hr
    obtain ⟨a, b⟩ := ptd_ok (n + 1) (m - f) s hs
    have := List.mem_range.mp hf
    simp only [List.length_cons, List.sum_cons]
    omega
end Fx
namespace Fx
open PySem PySem.Spec PyProof.Rows L2 RZ MR
theorem ptd_len : ∀ (n m : Nat), (ptd m n).length ≤ (m + 1) ^ n
  | 0, m => by simp [ptd]
  | 1, m => by simp [ptd]
  | n + 2, m => by
    simp only [ptd]
    have := flat_len (fun f => (ptd (m - f) (n + 1)).map fun r => f :: r) ((m + 1) ^ (n + 1)) (List.range (m + 1)) fun f hf => by
      rw [List.length_map]
      exact Nat.le_trans (ptd_len (n + 1) (m - f)) (Nat.pow_le_pow_left (by omega) _)
    rw [List.length_range] at this
    rw [Nat.pow_succ (n := m + 1) (m := n + 1)]
    exact this
theorem ptd_few {n m : Nat} (hn : n ≤ 4) (hm : m ≤ 8) : (ptd m n).length ≤ 6561 :=
  Nat.le_trans (ptd_len n m) (Nat.le_trans (Nat.pow_le_pow_left (by omega : m + 1 ≤ 9) n) (Nat.le_trans (Nat.pow_le_pow_right (by decide) hn) (by decide)))
end Fx
namespace Fx
open PySem PySem.Spec PyProof.Rows L2 RZ MR
theorem int_eqN {x y : Int} (h : ∀ r : Int, r ≤ x ↔ r ≤ y) : x = y := by
  have h1 := (h x).mp (Int.le_refl _)
  have h2 := (h y).mpr (Int.le_refl _)
  omega
theorem flr_whl {t : Nat} {o : Rat} (h : Whl t o) : o * ((2 ^ t : Nat) : Rat) = ((flr o t : Int) : Rat) := by
  obtain ⟨k, hk⟩ := h
  have : flr o t = k := int_eqN fun r => by
    rw [flr_iff]
    have hP := p2_pos t
    constructor
    · intro z
      have := Rat.mul_le_mul_of_nonneg_right z (Rat.le_of_lt hP)
      rw [dv_cast, hk] at this
      exact Rat.intCast_le_intCast.mp this
    · intro z
      refine Rat.le_of_mul_le_mul_right (?_ : _ * ((2 ^ t : Nat) : Rat) ≤ o * ((2 ^ t : Nat) : Rat)) hP
      rw [dv_cast, hk]
      exact Rat.intCast_le_intCast.mpr z
  rw [this, hk]
theorem giv_flr {t : Nat} {x : Rat × Rat} (h : Whl t x.2) : givI t x = decide (flr x.2 t - flr x.1 t = 1) := by
  unfold givI
  rw [flr_whl h]
  refine decide_eq_decide.mpr ?_
  constructor
  · intro z
    have := Rat.intCast_inj.mp z
    omega
  · intro z
    rw [show flr x.2 t = flr x.1 t + 1 by omega]
theorem lef_flr {t : Nat} {x : Rat × Rat} (h : Whl t x.2) : lefI t x = decide (flr x.2 t - flr x.1 t = 0) := by
  unfold lefI
  rw [flr_whl h]
  refine decide_eq_decide.mpr ?_
  constructor
  · intro z
    have := Rat.intCast_inj.mp z
    omega
  · intro z
    rw [show flr x.2 t = flr x.1 t by omega]
theorem inP01 (m : Int) : inP (.int m) [.int 0, .int 1] = decide (m = 0 ∨ m = 1) := by
  by_cases c : m = 0 ∨ m = 1
  · rw [decide_eq_true c]
    rcases c with rfl | rfl <;> rfl
  · rw [decide_eq_false c]
    unfold inP
    simp only [List.any_cons, List.any_nil, Bool.or_false, eqFlat]
    have h0 : ¬ (0 : Int) = m := by omega
    have h1 : ¬ (1 : Int) = m := by omega
    simp [h0, h1]
end Fx
namespace Fx
open PySem PySem.Spec PyProof.Rows L2 RZ MR
theorem frP_fold (q : Rat) : PV.tup [.int q.num, .int ((q.den : Nat) : Int)] = frP q := rfl
theorem nrb_dec {t : Nat} {qs os : List Rat} (h2 : ∀ x ∈ qs.zip os, givI t x = true ∨ lefI t x = true) {b : Bool}
    (hb : b = decide (((((qs.zip os).filter (givI t)).map fun x => rsd x.1 t).filter fun g => decide (((((qs.zip os).filter (lefI t)).map fun x => rsd x.1 t).filter fun r => decide (g < r)) ≠ [])) = [])) : b = true ↔ NrB t qs os := by
  rw [hb, decide_eq_true_eq, List.filter_eq_nil_iff]
  constructor
  · intro h
    refine ⟨h2, fun x hx y hy g l => Rat.not_lt.mp fun hlt => ?_⟩
    have := h (rsd x.1 t) (List.mem_map.mpr ⟨x, List.mem_filter.mpr ⟨hx, g⟩, rfl⟩)
    rw [decide_eq_true_eq] at this
    refine this fun z => ?_
    have := List.filter_eq_nil_iff.mp z (rsd y.1 t) (List.mem_map.mpr ⟨y, List.mem_filter.mpr ⟨hy, l⟩, rfl⟩)
    exact this (decide_eq_true hlt)
  · intro h g hg
    obtain ⟨x, hx, rfl⟩ := List.mem_map.mp hg
    rw [List.mem_filter] at hx
    rw [decide_eq_true_eq]
    intro z
    refine z (List.filter_eq_nil_iff.mpr fun r hr => ?_)
    obtain ⟨y, hy, rfl⟩ := List.mem_map.mp hr
    rw [List.mem_filter] at hy
    rw [decide_eq_true_eq]
    exact Rat.not_lt.mpr (h.top x hx.1 y hy.1 hx.2 hy.2)
end Fx
namespace Fx
open PySem PySem.Spec PyProof.Rows L2 RZ MR
def srP (r : Rat) : PV := .tup [.int (kyI r), frP r]
def srD (r : Rat) : PyData := .tuple [.int (kyI r), .tuple [.int r.num, .int ((r.den : Nat) : Int)]]
theorem dat_sr (r : Rat) : datP (srP r) = some (srD r) := rfl
theorem dats_sr : ∀ l : List Rat, datPs' (l.map srP) = some (l.map srD)
  | [] => rfl
  | r :: l => by
    rw [List.map_cons, List.map_cons]
    unfold datPs'
    rw [dat_sr, dats_sr l]
theorem sr_alike (a b : Rat) : PySem.W.alike (srD a) (srD b) = true := by
  unfold srD
  simp [PySem.W.alike, PySem.W.alikeAll]
theorem sr_all (l : List Rat) : PySem.W.AllAlike (l.map srD) ∧ PySem.W.Sortable (l.map srD) ∧ ∀ e ∈ l.map srD, e.depth ≤ 60 := by
  refine ⟨fun d hd e he => ?_, .inl fun d hd => ?_, fun e he => ?_⟩
  · obtain ⟨a, _, rfl⟩ := List.mem_map.mp hd
    obtain ⟨b, _, rfl⟩ := List.mem_map.mp he
    exact sr_alike a b
  · obtain ⟨a, _, rfl⟩ := List.mem_map.mp hd
    exact ⟨_, _, rfl⟩
  · obtain ⟨a, _, rfl⟩ := List.mem_map.mp he
    unfold srD
    simp [PyData.depth, PyData.depthAll]
theorem sr_le {a b : Rat} (h : leX (srP a) (srP b)) : kyI a ≤ kyI b := by
  have h := h _ _ (dat_sr a) (dat_sr b)
  refine Int.not_lt.mp fun hlt => ?_
  unfold srD at h
  rw [PySem.W.dataLt_pair (by simp [PySem.W.alike]) (by simp [PySem.W.alike, PySem.W.alikeAll])] at h
  have e : PyData.eqv (.int (kyI b)) (.int (kyI a)) = false := by
    simp only [PyData.eqv, beq_eq_false_iff_ne]
    omega
  rw [e, if_neg (by decide), PySem.W.dataLt_int, decide_eq_true hlt] at h
  cases h
end Fx
namespace Fx
open PySem PySem.Spec PyProof.Rows L2 RZ MR
theorem near_tab {t n : Nat} {qs ps : List Rat} (h : NearQ t qs ps) (hT : Tab n qs) (ht : t ≤ 40) : Tab 44 ps := by
  have hw := near_whl h
  obtain ⟨θ, t0, t1, hb⟩ := h.bar
  refine ⟨fun z => ?_, by rw [h.len]; exact hT.len, fun p hp => ?_, h.one, 2 ^ t, Nat.two_pow_pos t, Nat.pow_lt_pow_right (by decide) (by omega), fun p hp => ?_⟩
  · have h1 := h.len
    rw [z] at h1
    exact hT.ne (List.length_eq_zero_iff.mp h1.symm)
  · have : p ∈ (qs.zip ps).map (·.2) := by rw [(zip_snd h.len).1]; exact hp
    obtain ⟨x, hx, rfl⟩ := List.mem_map.mp this
    have hq := hT.pos _ (List.of_mem_zip (a := x.1) (b := x.2) hx).1
    have hf : (0 : Rat) ≤ ((flr x.1 t : Int) : Rat) := by
      have : 0 ≤ flr x.1 t := flr_iff.mpr (by rw [Rat.zero_divInt]; exact hq)
      exact Rat.intCast_nonneg.mpr this
    have hP := p2_pos t
    refine Rat.le_of_mul_le_mul_right (?_ : 0 * ((2 ^ t : Nat) : Rat) ≤ x.2 * ((2 ^ t : Nat) : Rat)) hP
    rw [Rat.zero_mul]
    rcases nri_abs (hb x hx) with ⟨_, _, a3⟩ | ⟨_, _, a3⟩ <;> rw [a3] <;> grind
  · obtain ⟨k, hk⟩ := hw.2.2 p hp
    exact ⟨k, hk⟩
theorem whl_dvd {t : Nat} {p : Rat} (h : Whl t p) : p.den ∣ 2 ^ t := by
  obtain ⟨k, hk⟩ := h
  exact cm_den ⟨k, hk⟩
theorem whl_up {t s : Nat} {p : Rat} (h : Whl t p) (hs : t ≤ s) : Whl s p := by
  obtain ⟨k, hk⟩ := h
  obtain ⟨d, rfl⟩ := Nat.exists_eq_add_of_le hs
  refine ⟨k * ((2 ^ d : Nat) : Int), ?_⟩
  have e : ((2 ^ (t + d) : Nat) : Rat) = ((2 ^ t : Nat) : Rat) * ((2 ^ d : Nat) : Rat) := by rw [Nat.pow_add, Rat.natCast_mul]
  rw [e, Rat.intCast_mul, ← hk]
  have e1 : (((2 ^ d : Nat) : Int) : Rat) = ((2 ^ d : Nat) : Rat) := rfl
  rw [e1]
  grind
theorem oth_up {t s : Nat} {qs os : List Rat} (h : Oth t qs os) (hs : t ≤ s) : Oth s qs os := ⟨h.1, h.2.1, fun o ho => whl_up (h.2.2 o ho) hs⟩
def rowQ (t : Nat) (r : List Nat) : List Rat := r.map fun (p : Nat) => Rat.divInt (p : Int) ((2 ^ t : Nat) : Int)
theorem row_sum (t : Nat) : ∀ r : List Nat, (rowQ t r).sum * ((2 ^ t : Nat) : Rat) = ((r.sum : Nat) : Rat)
  | [] => by simp [rowQ]
  | p :: r => by
    have ih := row_sum t r
    have e := dv_cast (p : Int) t
    unfold rowQ at *
    rw [List.map_cons, List.sum_cons, Rat.add_mul, ih, e, List.sum_cons, Rat.natCast_add]
    rfl
theorem row_oth {t : Nat} {qs : List Rat} {r : List Nat} (hl : r.length = qs.length) (hs : r.sum = 2 ^ t) : Oth t qs (rowQ t r) := by
  refine ⟨by unfold rowQ; rw [List.length_map, hl], ?_, fun o ho => ?_⟩
  · have := row_sum t r
    rw [hs] at this
    have hP := p2_pos t
    generalize ((2 ^ t : Nat) : Rat) = N at *
    have h2 : ((rowQ t r).sum - 1) * N = 0 := by grind
    rcases Rat.mul_eq_zero.mp h2 with z | z
    · grind
    · rw [z] at hP; exact absurd hP (by decide)
  · obtain ⟨p, _, rfl⟩ := List.mem_map.mp ho
    exact ⟨_, dv_cast _ t⟩
theorem row_tab {t : Nat} {qs : List Rat} {r : List Nat} (hl : r.length = qs.length) (hs : r.sum = 2 ^ t) (hq : qs ≠ []) (h8 : qs.length ≤ 8) (ht : t ≤ 40) : Tab 44 (rowQ t r) := by
  obtain ⟨a, b, c⟩ := row_oth hl hs
  refine ⟨fun z => ?_, by omega, fun p hp => ?_, b, 2 ^ t, Nat.two_pow_pos t, Nat.pow_lt_pow_right (by decide) (by omega), fun p hp => ?_⟩
  · rw [z] at a
    exact hq (List.length_eq_zero_iff.mp a.symm)
  · obtain ⟨n, _, rfl⟩ := List.mem_map.mp hp
    exact Rat.divInt_nonneg (Int.natCast_nonneg _) (Int.natCast_nonneg _)
  · obtain ⟨k, hk⟩ := c p hp
    exact ⟨k, hk⟩
theorem near_gmx {t : Nat} {qs ps os : List Rat} (h : NearQ t qs ps) (ho : Oth t qs os) : gmx (dls qs ps) ≤ gmx (dls qs os) := by
  obtain ⟨θ, t0, t1, hb⟩ := h.bar
  obtain ⟨p1, p2⟩ := tri_prt h ho
  obtain ⟨z1, z2⟩ := zip3_a h.len ho.1
  refine gmx_le fun x hx => ?_
  unfold dls at hx ⊢
  obtain ⟨y, hy, rfl⟩ := List.mem_map.mp hx
  rw [← z1] at hy
  obtain ⟨z, hz, rfl⟩ := List.mem_map.mp hy
  obtain ⟨w, hw, hle⟩ := all_max (tri_of h ho hb) (by rw [p1, p2]) hz
  exact ⟨_, List.mem_map.mpr ⟨(w.1, w.2.2), by rw [← z2]; exact List.mem_map.mpr ⟨w, hw, rfl⟩, rfl⟩, hle⟩
theorem near_dec {t : Nat} {qs ps os : List Rat} (h : NearQ t qs ps) (h1 : qs.sum = 1) (ho : Oth t qs os) {b : Bool} (hb : b = true ↔ NrB t qs os) : decide (d2 qs os / 2 = d2 qs ps / 2) = b := by
  have key : (d2 qs os / 2 = d2 qs ps / 2) ↔ NrB t qs os := by
    rw [nrb_iff ho]
    constructor
    · intro e
      exact near_eq h h1 ho (by grind)
    · intro k
      rw [near_same k h]
  cases b with
  | true => exact decide_eq_true (key.mpr (hb.mp rfl))
  | false => exact decide_eq_false fun z => by have := hb.mpr (key.mp z); cases this
theorem ky_eq (r : Rat) : ((1 : Int) * 2 ^ (80 : Int).toNat * r.num).fdiv (r.den : Int) = kyI r := by
  unfold kyI
  rw [show (1 : Int) * 2 ^ (80 : Int).toNat = ((2 ^ 80 : Nat) : Int) by decide]
theorem sum_le_len : ∀ {l : List Rat}, (∀ q ∈ l, q ≤ 1) → l.sum ≤ ((l.length : Nat) : Rat)
  | [], _ => by decide +kernel
  | q :: l, h => by
    have h1 := h q (List.mem_cons_self ..)
    have h2 := sum_le_len (l := l) fun x hx => h x (List.mem_cons_of_mem _ hx)
    rw [List.sum_cons, List.length_cons, Rat.natCast_add]
    have : ((1 : Nat) : Rat) = 1 := rfl
    grind
theorem pRepr_bb {b : Bool} {μ : Store} {P : PV → Store → Prop} (hP : P (.str (shwP (.tup [.bl b, .bl b]))) μ) : pRepr [.tup [.bl b, .bl b]] μ P := by
  have hb : ShB 0 10 (PV.bl b) := ⟨.bool b, rfl, by simp [PyData.showable], by simp [PyData.hasDict], by simp [PyData.depth], by cases b <;> decide⟩
  refine pRepr_tup (shb_tup (d := 0) (l := 10) fun x hx => ?_) (by decide) (show 2 * (10 + 2) + 3 ≤ lim by decide) hP
  simp only [List.mem_cons, List.not_mem_nil, or_false, or_self] at hx
  subst hx
  exact hb
end Fx
namespace Fx
open PySem PySem.Spec PyProof.Rows L2 RZ MR
abbrev S_is_integer : PSp := fun xs μ Q => xs.length = 1 ∧ ∃ i, xs = [.int i] ∧ Q (.bl true) μ
abbrev S_lowest : PSp := fun xs μ Q => xs.length = 2 ∧ ∃ a b, xs = [.int a, .int b] ∧ 0 < b ∧ b.natAbs < 2 ^ 8900 ∧ Q (frP (Rat.divInt a b)) μ
abbrev S_added : PSp := fun xs μ Q => xs.length = 2 ∧ ∃ p q, xs = [frP p, frP q] ∧ Sm 4000 p ∧ Sm 4000 q ∧ Q (frP (p + q)) μ
abbrev S_divided : PSp := fun xs μ Q => xs.length = 2 ∧ ∃ p q, xs = [frP p, frP q] ∧ Sm 4000 p ∧ Sm 4000 q ∧ 0 < q ∧ Q (frP (p / q)) μ
abbrev S_total : PSp := fun xs μ Q => xs.length = 1 ∧ ∃ x qs, xs = [x] ∧ seqP x = some (qs.map frP) ∧ Sb 3900 qs ∧ Q (frP qs.sum) μ
abbrev S_is_fraction : PSp := fun xs μ Q => xs.length = 1 ∧ ∃ q, xs = [frP q] ∧ Q (.bl true) μ
abbrev S_is_amount : PSp := fun xs μ Q => xs.length = 1 ∧ ∃ q, xs = [frP q] ∧ 0 ≤ q ∧ Q (.bl true) μ
abbrev S_are_amounts : PSp := fun xs μ Q => xs.length = 2 ∧ ∃ (qs : List Rat) (n : Nat), xs = [tabP qs, .int (n : Nat)] ∧ qs.length = n ∧ qs.length ≤ lim ∧ (∀ q ∈ qs, 0 ≤ q) ∧ Q (.bl true) μ
abbrev S_is_table : PSp := fun xs μ Q => xs.length = 1 ∧ ∃ qs, xs = [tabP qs] ∧ Tab 3800 qs ∧ Q (.bl true) μ
abbrev S_check_table : PSp := fun xs μ Q => xs.length = 1 ∧ ∃ qs, xs = [tabP qs] ∧ Tab 3800 qs ∧ Q .non μ
abbrev S__law_draw : PSp := fun xs μ Q => xs.length = 2 ∧ ∃ (many m : Int) (rest : Store), xs = [.mr 1, .int many] ∧ Dk m rest μ ∧ 0 < many ∧ many < 2 ^ 60 ∧
  ∀ (n : Int) (μ' : Store), 0 ≤ n → n < many → Dk m rest μ' → Q (.int n) μ' 
abbrev S__law_pick : PSp := fun xs μ Q => xs.length = 2 ∧ ∃ (x : PV) (items : List PV) (m : Int) (rest : Store), xs = [.mr 1, x] ∧ (seqP x = some items ∨ ∃ j, x = .mr (j + 2) ∧ rest[j]? = some (.lst items)) ∧ Dk m rest μ ∧ 0 < items.length ∧ items.length ≤ 1000 ∧
  ∀ v ∈ items, ∀ μ', Dk m rest μ' → Q v μ' 
abbrev S__law_deck : PSp := fun xs μ Q => xs.length = 1 ∧ ∃ (ns : List Int), xs = [.kl (ns.map PV.int)] ∧ μ = [] ∧
  ∀ (m : Int) (μ' : Store), Dk m [] μ' → Q (.mr 1) μ' 
abbrev S__law_common : PSp := fun xs μ Q => xs.length = 2 ∧ ∃ (a b : Int), xs = [.int a, .int b] ∧ Q (.int (Nat.gcd a.natAbs b.natAbs : Nat)) μ
abbrev S__law_fraction : PSp := fun xs μ Q => xs.length = 2 ∧ ∃ (a b : Int), xs = [.int a, .int b] ∧ 0 < b ∧ b.natAbs < 2 ^ 8900 ∧ Q (frP (Rat.divInt a b)) μ
abbrev S__law_table : PSp := fun xs μ Q => xs.length = 3 ∧ ∃ (n z : Nat) (m : Int) (rest : Store) (x : PV) (Bs : List Nat), xs = [.mr 1, .int (n : Nat), x] ∧ seqP x = some (Bs.map fun (b : Nat) => PV.int b) ∧ Dk m rest μ ∧ 1 ≤ n ∧ n ≤ 8 ∧ z ≤ 44 ∧ Bs ≠ [] ∧ Bs.length ≤ 1000 ∧ (∀ b ∈ Bs, 1 ≤ b ∧ b < 2 ^ z) ∧
  ∀ (qs : List Rat) (g : Store) (μ' : Store), Tab z qs → qs.length = n → Dk m (rest ++ g) μ' → Q (tabP qs) μ' 
abbrev S_law : PSp := fun xs μ Q => xs.length = 1 ∧ ∃ ns : List Int, xs = [.kl (ns.map PV.int)] ∧ μ = [] ∧ ∀ μ', Q (.bl true) μ' 
abbrev S_apart : PSp := fun xs μ Q => xs.length = 2 ∧ ∃ p q, xs = [frP p, frP q] ∧ Sm 4000 p ∧ Sm 4000 q ∧ Q (frP (rab (p - q))) μ
abbrev S_is_above : PSp := fun xs μ Q => xs.length = 2 ∧ ∃ p q, xs = [frP p, frP q] ∧ Sm 4000 p ∧ Sm 4000 q ∧ Q (.bl (decide (q < p))) μ
abbrev S_check_pair : PSp := fun xs μ Q => xs.length = 2 ∧ ∃ a b, xs = [tabP a, tabP b] ∧ Tab 3800 a ∧ Tab 3800 b ∧ b.length = a.length ∧ Q .non μ
abbrev S_amount_apart : PSp := fun xs μ Q => xs.length = 2 ∧ ∃ (m n : Nat) (a b : List Rat), xs = [tabP a, tabP b] ∧ Tab m a ∧ Tab n b ∧ m + n ≤ 3800 ∧ b.length = a.length ∧ Q (frP (d2 a b / 2)) μ
abbrev S_distance : PSp := fun xs μ Q => xs.length = 2 ∧ ∃ (m n : Nat) (a b : List Rat), xs = [tabP a, tabP b] ∧ Tab m a ∧ Tab n b ∧ m + n ≤ 3800 ∧ b.length = a.length ∧ Q (frP (d2 a b / 2)) μ
abbrev S__law_is_integer : PSp := fun xs μ Q => xs.length = 1 ∧ ∃ i, xs = [.int i] ∧ Q (.bl true) μ
abbrev S_is_number : PSp := fun xs μ Q => xs.length = 1 ∧ ∃ (i : Int), xs = [.int i] ∧ Q (.bl (decide (0 ≤ i))) μ
abbrev S_check_number : PSp := fun xs μ Q => xs.length = 1 ∧ ∃ (i : Int), xs = [.int i] ∧ 0 ≤ i ∧ Q .non μ
abbrev S__law_is_right : PSp := fun xs μ Q => xs.length = 3 ∧ ∃ (qs : List Rat) (t : Nat), xs = [.mr 1, tabP qs, .int (t : Nat)] ∧ Tab 44 qs ∧ t ≤ 30 ∧ Q (.bl true) μ
abbrev S__law_plus : PSp := fun xs μ Q => xs.length = 2 ∧ ∃ (p q : Rat), xs = [frP p, frP q] ∧ Sm 4000 p ∧ Sm 4000 q ∧ Q (frP (p + q)) μ
abbrev S__law_total : PSp := fun xs μ Q => xs.length = 1 ∧ ∃ x qs, xs = [x] ∧ seqP x = some (qs.map frP) ∧ Sb 3900 qs ∧ Q (frP qs.sum) μ
abbrev S__law_is_less : PSp := fun xs μ Q => xs.length = 2 ∧ ∃ (p q : Rat), xs = [frP p, frP q] ∧ Sm 4000 p ∧ Sm 4000 q ∧ Q (.bl (decide (p < q))) μ
abbrev S_is_power_of_two : PSp := fun xs μ Q => xs.length = 1 ∧ ∃ (n : Nat), xs = [.int (n : Nat)] ∧ 0 < n ∧ Q (.bl (pw2 n)) μ
abbrev S_is_within_bits : PSp := fun xs μ Q => xs.length = 2 ∧ ∃ (qs : List Rat) (t : Nat), xs = [tabP qs, .int (t : Nat)] ∧ qs.length ≤ 8 ∧ Q (.bl (decide (∀ q ∈ qs, q.den ∣ 2 ^ t))) μ
abbrev S_can_be_drawn : PSp := fun xs μ Q => xs.length = 2 ∧ ∃ (qs : List Rat) (t : Nat), xs = [tabP qs, .int (t : Nat)] ∧ Tab 3800 qs ∧ Q (.bl (decide (∀ q ∈ qs, q.den ∣ 2 ^ t))) μ
abbrev S_nearest : PSp := fun xs μ Q => xs.length = 2 ∧ ∃ (qs : List Rat) (t : Nat), xs = [tabP qs, .int (t : Nat)] ∧ Tab 44 qs ∧ t ≤ 40 ∧ ∀ ps, NearQ t qs ps → Q (tabP ps) μ
abbrev S_nearest_to : PSp := fun xs μ Q => xs.length = 2 ∧ ∃ (qs : List Rat) (t : Nat), xs = [tabP qs, .int (t : Nat)] ∧ Tab 44 qs ∧ t ≤ 40 ∧ ∀ ps, NearQ t qs ps → Q (tabP ps) μ
abbrev S__law_minus : PSp := fun xs μ Q => xs.length = 2 ∧ ∃ (p q : Rat), xs = [frP p, frP q] ∧ Sm 4000 p ∧ Sm 4000 q ∧ Q (frP (p - q)) μ
abbrev S__law_over : PSp := fun xs μ Q => xs.length = 2 ∧ ∃ (p q : Rat), xs = [frP p, frP q] ∧ Sm 4000 p ∧ Sm 4000 q ∧ 0 < q ∧ Q (frP (p / q)) μ
abbrev S__law_distance : PSp := fun xs μ Q => xs.length = 2 ∧ ∃ (m n : Nat) (a b : List Rat), xs = [tabP a, tabP b] ∧ Tab m a ∧ Tab n b ∧ m + n ≤ 300 ∧ b.length = a.length ∧ Q (frP (d2 a b / 2)) μ
abbrev S__law_greatest : PSp := fun xs μ Q => xs.length = 2 ∧ ∃ (m n : Nat) (a b : List Rat), xs = [tabP a, tabP b] ∧ Tab m a ∧ Tab n b ∧ m + n ≤ 300 ∧ b.length = a.length ∧ Q (frP (gmx (dls a b))) μ
abbrev S__law_whole_parts : PSp := fun xs μ Q => xs.length = 2 ∧ ∃ (qs : List Rat) (t : Nat), xs = [tabP qs, .int (t : Nat)] ∧ Tab 44 qs ∧ t ≤ 40 ∧ Q (.lst (qs.map (wpP t))) μ
abbrev S__law_drawable : PSp := fun xs μ Q => xs.length = 2 ∧ ∃ (qs : List Rat) (t : Nat), xs = [tabP qs, .int (t : Nat)] ∧ Tab 44 qs ∧ t ≤ 40 ∧ Q (.bl (decide (∀ q ∈ qs, q.den ∣ 2 ^ t))) μ
abbrev S__law_is_fraction : PSp := fun xs μ Q => xs.length = 1 ∧ ∃ (q : Rat), xs = [frP q] ∧ Q (.bl true) μ
abbrev S__law_is_table : PSp := fun xs μ Q => xs.length = 1 ∧ ∃ (qs : List Rat), xs = [tabP qs] ∧ Tab 300 qs ∧ Q (.bl true) μ
abbrev S__law_is_nearest : PSp := fun xs μ Q => xs.length = 3 ∧ ∃ (qs os : List Rat) (t : Nat), xs = [tabP qs, .int (t : Nat), tabP os] ∧ Tab 44 qs ∧ Tab 44 os ∧ t ≤ 40 ∧ Oth t qs os ∧ ∀ b, (b = true ↔ NrB t qs os) → Q (.bl b) μ
abbrev S__law_parted_n (dd : Nat) : PSp := fun xs μ Q => 0 < dd ∧ xs.length = 2 ∧ ∃ (m n : Nat), xs = [.int (m : Nat), .int (n : Nat)] ∧ n ≤ dd ∧ 1 ≤ n ∧ n ≤ 4 ∧ m ≤ 8 ∧ Q (.lst ((ptd m n).map lotP)) μ
abbrev S__law_parted : PSp := S__law_parted_n 5
abbrev S__law_least_distance : PSp := fun xs μ Q => xs.length = 2 ∧ ∃ (qs ps : List Rat) (t : Nat), xs = [tabP qs, .int (t : Nat)] ∧ Tab 44 qs ∧ t ≤ 40 ∧ NearQ t qs ps ∧ Q (frP (d2 qs ps / 2)) μ
abbrev S__law_beats_all : PSp := fun xs μ Q => xs.length = 3 ∧ ∃ (qs ps : List Rat) (t : Nat), xs = [tabP qs, .int (t : Nat), tabP ps] ∧ Tab 44 qs ∧ qs.length ≤ 4 ∧ t ≤ 3 ∧ NearQ t qs ps ∧ Tab 44 ps ∧ Q (.bl true) μ
end Fx
namespace K47
open PySem PySem.Spec PyProof.Rows L2 RZ Fx MR

def topS (i : Nat) : Stmt := PySem.Challenge.pw_drawnbits_k47_whole_nearest_tables.main.body.getD i (.Pass ⟨0, 0, 0, 0⟩)
abbrev s_is_integer : Stmt := topS 7
abbrev s_is_number : Stmt := topS 8
abbrev s_check_number : Stmt := topS 9
abbrev s_is_power_of_two : Stmt := topS 10
abbrev s_lowest : Stmt := topS 11
abbrev s_added : Stmt := topS 12
abbrev s_total : Stmt := topS 13
abbrev s_divided : Stmt := topS 14
abbrev s_apart : Stmt := topS 15
abbrev s_is_above : Stmt := topS 16
abbrev s_is_fraction : Stmt := topS 19
abbrev s_is_amount : Stmt := topS 20
abbrev s_are_amounts : Stmt := topS 21
abbrev s_is_table : Stmt := topS 22
abbrev s_check_table : Stmt := topS 23
abbrev s_check_pair : Stmt := topS 24
abbrev s_amount_apart : Stmt := topS 25
abbrev s_distance : Stmt := topS 26
abbrev s_is_within_bits : Stmt := topS 28
abbrev s_can_be_drawn : Stmt := topS 29
abbrev s_nearest : Stmt := topS 30
abbrev s_nearest_to : Stmt := topS 31
abbrev s__law_deck : Stmt := topS 33
abbrev s__law_draw : Stmt := topS 34
abbrev s__law_pick : Stmt := topS 35
abbrev s__law_is_integer : Stmt := topS 36
abbrev s__law_common : Stmt := topS 37
abbrev s__law_fraction : Stmt := topS 38
abbrev s__law_plus : Stmt := topS 39
abbrev s__law_minus : Stmt := topS 40
abbrev s__law_over : Stmt := topS 41
abbrev s__law_total : Stmt := topS 42
abbrev s__law_is_less : Stmt := topS 43
abbrev s__law_is_fraction : Stmt := topS 44
abbrev s__law_is_table : Stmt := topS 45
abbrev s__law_table : Stmt := topS 46
abbrev s__law_distance : Stmt := topS 47
abbrev s__law_whole_parts : Stmt := topS 48
abbrev s__law_drawable : Stmt := topS 49
abbrev s__law_is_nearest : Stmt := topS 50
abbrev s__law_least_distance : Stmt := topS 51
abbrev s__law_parted : Stmt := topS 52
abbrev s__law_greatest : Stmt := topS 53
abbrev s__law_beats_all : Stmt := topS 54
abbrev s__law_is_right : Stmt := topS 55
abbrev s_law : Stmt := topS 56
section
variable {P : Program} {w : World} {K : PySem.W.Frag} {mg : Str → Option Value} {base : Heap}
abbrev N__law_deck : List Str := ["_law_script", "_law_mixed", "_law_cell"]
theorem sc__law_deck : FnScope N__law_deck ["_law_script"] (defScope s__law_deck) := ⟨rfl, rfl, rfl, by decide +kernel, rfl, by decide +kernel, by decide +kernel⟩
theorem ok__law_deck (B : Blt mg) (h__law_deck : Own K mg "_law_deck" s__law_deck) : Ok P w K mg base 1 "_law_deck" s__law_deck ["_law_script"] S__law_deck := by
  obtain ⟨f_s, fd_s, F_s, g_s⟩ := h__law_deck
  refine ⟨f_s, fd_s, F_s, g_s, F_s.binds (fun _ _ _ _ _ _ us hl => match us, hl with | [_], _ => rfl), FnG.of F_s sc__law_deck (fun xs μ Q h => by first | exact h.1 | exact h.2.1 | (obtain ⟨⟩ := h)) fun cdv A outer s H hr hgd => ⟨_, _, (pss_cons (ps_set (i := 1) sc__law_deck.nd rfl (Or.inl rfl) pe_int)
 (pss_cons (ps_for PassesOwn.never rfl (pi_seq (pe_slice sl_any (pv 0) po_none (po_some pe_int))) (pg_name (i := 2) sc__law_deck.nd rfl (Or.inl rfl))
 (pss_one (ps_set (i := 1) sc__law_deck.nd rfl (Or.inl rfl) (pe_op op_modX (pe_callTy cb_int1 (by rfl) (B "int" (by decide)) (by decide +kernel) (pa_cons (pe_op op_plus (pe_op op_plus (pe_op op_times (pv 1) pe_int) (pe_op op_modX (pe_callTy cb_int1 (by rfl) (B "int" (by decide)) (by decide +kernel) (pa_cons (pv 2) pa_nil)) pe_int)) pe_int) pa_nil)) pe_int))))
 (pss_one (ps_ret (pe_disp (pps_cons pe_str (peRM (pe_revL (pe_callTy cb_lst (by rfl) (B "list" (by decide)) (by decide +kernel) (pa_cons (pe_slice sl_any (pv 0) po_none (po_some pe_int)) pa_nil)))) (pps_cons pe_str (pv 1) (pps_cons pe_str pe_int pps_nil))) (by rfl) (by rfl) (fun z => by cases z) (by decide)))))), (by (try dsimp only [cxOf]); exact inferInstance), ?_⟩⟩
  intro xs μ Q hS
  obtain ⟨_, ns, rfl, rfl, hQ⟩ := hS
  rw [show startP N__law_deck [.kl (ns.map PV.int)] = [some (.kl (ns.map PV.int)), none, none] from rfl]
  have hc : cutP (ns.map PV.int) none (some 63) = (ns.take 63).map PV.int := by rw [List.map_take]; exact cut_to _ 63
  simp only [mBits, mEnumC, pSortX, mDNewT, mZipM, mDc, mLenSetL, mDGetT, mDGet2T, mDInT, mDPutT, mLockX, mLockEX, mKeysX, pLstX, pLenX, pMaxT, pSortT, str_to, str_ot, mPar3, mLockV, mLockE, mItemsC, mKeysC, mDGet2, pIsN, isNonP, pRepLM, mTruD, dkOfP, pPopAt, pIndex, mLstRgM, mTruth, pReprA, pLenD, pLstD, mDNew, pRepL, mLenSetN, mDIn, mSortSet, mSortSetL, mRevT, mForC, mSeqC, mLcC, pAbs, pMax2, pMin2, pInt1, mDGet, mDPut, mBM, mBM0, pPop, pAppend, pExtend, pSetL, mSub, mDisp, mPs, mPs0, mRevL, mRevLM, pLstOfM, mTupRg, mRg1, mRg2, pPlusM, lstItems, dictOfP, keyP, keysP, val_left, val_mixed, val_draws, put_draws, mLc, mLcM, mLc2, mFor, mSeqI, mRng1, mRng2, mZip, mEnum, mSl, mNoPart, mPart, mSeq, mAsg, mAsg2, mCB, mCons, mNil, mVar, mC, mOp, mUn, pU, mTup, mLst, mRet, mRetN, mLstM, getl, setl, mName, mCall, mCallK, mIf, mIfS, mTest, mAnd, mOr, mNot, mYes, mAndV, mOrV, mNotV, mNext, mNever, mBreak, mCont, mDrop, mChain, mPar, mGTup, mGCons, mGNil, pGcd, pI, pI0, pIx, pTimes, pPlus, pEq, pNe, pLen, pSum, pMaxS, pAll, pAny, pTupOf, pLstOf, pIn, pIsB, pIsi, items_tup, items_lst, items_kl, items_mr, items_tab, items_lot, items_fr, decide_true, decide_false, eqP_int, eqP_bl, eqP_str, eqP_tup2, kit_tt, kit_ii, kit_ib, tyP, mEnd, wipeP, List.map_cons, List.map_nil, List.getElem?_cons_zero, List.getElem?_cons_succ, List.set_cons_zero, List.set_cons_succ, atI_zero, atI_one, if_true, if_false, ite_true, ite_false, Bool.false_eq_true, List.length_cons, List.length_nil, Bool.not_true, Bool.not_false, hc]
  refine for_inv (enc := PV.int) (fun pre ρ μ' => (∃ m y, ρ = [some (.kl (ns.map PV.int)), some (.int m), y]) ∧ μ' = []) (done := []) ⟨⟨_, _, rfl⟩, rfl⟩ (fun pre a post ρ μ' e hI N hN => ?_) fun ρ μ' hI => ?_
  · obtain ⟨⟨m, y, rfl⟩, rfl⟩ := hI
    simp only [mBits, mEnumC, pSortX, mDNewT, mZipM, mDc, mLenSetL, mDGetT, mDGet2T, mDInT, mDPutT, mLockX, mLockEX, mKeysX, pLstX, pLenX, pMaxT, pSortT, str_to, str_ot, mPar3, mLockV, mLockE, mItemsC, mKeysC, mDGet2, pIsN, isNonP, pRepLM, mTruD, dkOfP, pPopAt, pIndex, mLstRgM, mTruth, pReprA, pLenD, pLstD, mDNew, pRepL, mLenSetN, mDIn, mSortSet, mSortSetL, mRevT, mForC, mSeqC, mLcC, pAbs, pMax2, pMin2, pInt1, mDGet, mDPut, mBM, mBM0, pPop, pAppend, pExtend, pSetL, mSub, mDisp, mPs, mPs0, mRevL, mRevLM, pLstOfM, mTupRg, mRg1, mRg2, pPlusM, lstItems, dictOfP, keyP, keysP, val_left, val_mixed, val_draws, put_draws, mLc, mLcM, mLc2, mFor, mSeqI, mRng1, mRng2, mZip, mEnum, mSl, mNoPart, mPart, mSeq, mAsg, mAsg2, mCB, mCons, mNil, mVar, mC, mOp, mUn, pU, mTup, mLst, mRet, mRetN, mLstM, getl, setl, mName, mCall, mCallK, mIf, mIfS, mTest, mAnd, mOr, mNot, mYes, mAndV, mOrV, mNotV, mNext, mNever, mBreak, mCont, mDrop, mChain, mPar, mGTup, mGCons, mGNil, pGcd, pI, pI0, pIx, pTimes, pPlus, pEq, pNe, pLen, pSum, pMaxS, pAll, pAny, pTupOf, pLstOf, pIn, pIsB, pIsi, items_tup, items_lst, items_kl, items_mr, items_tab, items_lot, items_fr, decide_true, decide_false, eqP_int, eqP_bl, eqP_str, eqP_tup2, kit_tt, kit_ii, kit_ib, tyP, mEnd, wipeP, List.map_cons, List.map_nil, List.getElem?_cons_zero, List.getElem?_cons_succ, List.set_cons_zero, List.set_cons_succ, atI_zero, atI_one, if_true, if_false, ite_true, ite_false, Bool.false_eq_true, List.length_cons, List.length_nil, Bool.not_true, Bool.not_false]
    exact ⟨mulR (by decide) (by decide), by decide, by decide, hN _ _ ⟨⟨_, _, rfl⟩, rfl⟩⟩
  · obtain ⟨⟨m, y, rfl⟩, rfl⟩ := hI
    simp only [mBits, mEnumC, pSortX, mDNewT, mZipM, mDc, mLenSetL, mDGetT, mDGet2T, mDInT, mDPutT, mLockX, mLockEX, mKeysX, pLstX, pLenX, pMaxT, pSortT, str_to, str_ot, mPar3, mLockV, mLockE, mItemsC, mKeysC, mDGet2, pIsN, isNonP, pRepLM, mTruD, dkOfP, pPopAt, pIndex, mLstRgM, mTruth, pReprA, pLenD, pLstD, mDNew, pRepL, mLenSetN, mDIn, mSortSet, mSortSetL, mRevT, mForC, mSeqC, mLcC, pAbs, pMax2, pMin2, pInt1, mDGet, mDPut, mBM, mBM0, pPop, pAppend, pExtend, pSetL, mSub, mDisp, mPs, mPs0, mRevL, mRevLM, pLstOfM, mTupRg, mRg1, mRg2, pPlusM, lstItems, dictOfP, keyP, keysP, val_left, val_mixed, val_draws, put_draws, mLc, mLcM, mLc2, mFor, mSeqI, mRng1, mRng2, mZip, mEnum, mSl, mNoPart, mPart, mSeq, mAsg, mAsg2, mCB, mCons, mNil, mVar, mC, mOp, mUn, pU, mTup, mLst, mRet, mRetN, mLstM, getl, setl, mName, mCall, mCallK, mIf, mIfS, mTest, mAnd, mOr, mNot, mYes, mAndV, mOrV, mNotV, mNext, mNever, mBreak, mCont, mDrop, mChain, mPar, mGTup, mGCons, mGNil, pGcd, pI, pI0, pIx, pTimes, pPlus, pEq, pNe, pLen, pSum, pMaxS, pAll, pAny, pTupOf, pLstOf, pIn, pIsB, pIsi, items_tup, items_lst, items_kl, items_mr, items_tab, items_lot, items_fr, decide_true, decide_false, eqP_int, eqP_bl, eqP_str, eqP_tup2, kit_tt, kit_ii, kit_ib, tyP, mEnd, wipeP, List.map_cons, List.map_nil, List.getElem?_cons_zero, List.getElem?_cons_succ, List.set_cons_zero, List.set_cons_succ, atI_zero, atI_one, if_true, if_false, ite_true, ite_false, Bool.false_eq_true, List.length_cons, List.length_nil, Bool.not_true, Bool.not_false, hc]
    refine ⟨by decide, fin_keep ?_⟩
    have h := hQ m (DS (ns.take 63).reverse m 0 []) ⟨_, _, by simp; omega, rfl⟩
    have e : DS (ns.take 63).reverse m 0 [] = [MO.lst ((ns.take 63).map PV.int).reverse] ++ [MO.dk (List.foldl (fun acc kv => putP acc kv.1 kv.2) [] [(.inr (Str.ofString "cells"), PV.mr 0), (.inr (Str.ofString "mixed"), PV.int m), (.inr (Str.ofString "draws"), PV.int 0)])] := by
      unfold DS
      rw [List.map_reverse]
      rfl
    rw [e] at h
    exact h
abbrev N__law_draw : List Str := ["_law_deck_here", "_law_many", "_law_number", "_law_cell"]
theorem sc__law_draw : FnScope N__law_draw ["_law_deck_here", "_law_many"] (defScope s__law_draw) := ⟨rfl, rfl, rfl, by decide +kernel, rfl, by decide +kernel, by decide +kernel⟩
theorem ok__law_draw (B : Blt mg) (h__law_draw : Own K mg "_law_draw" s__law_draw) : Ok P w K mg base 1 "_law_draw" s__law_draw ["_law_deck_here", "_law_many"] S__law_draw := by
  obtain ⟨f_s, fd_s, F_s, g_s⟩ := h__law_draw
  refine ⟨f_s, fd_s, F_s, g_s, F_s.binds (fun _ _ _ _ _ _ us hl => match us, hl with | [_, _], _ => rfl), FnG.of F_s sc__law_draw (fun xs μ Q h => by first | exact h.1 | exact h.2.1 | (obtain ⟨⟩ := h)) fun cdv A outer s H hr hgd => ⟨_, _, (pss_cons (ps_dput (hu_of hr) (pv 0) pe_str (pe_op op_plus (pe_dget (hu_of hr) (pv 0) pe_str (fun _ _ => rfl)) pe_int) (by rfl))
 (pss_cons (ps_set (i := 2) sc__law_draw.nd rfl (Or.inl rfl) (pe_op op_plus (pe_dget (hu_of hr) (pv 0) pe_str (fun _ _ => rfl)) (pe_op op_times pe_int (pe_dget (hu_of hr) (pv 0) pe_str (fun _ _ => rfl)))))
 (pss_cons (ps_if (pt_cmpR (op_neX hr.units) (pe_dget (hu_of hr) (pv 0) pe_str (fun _ _ => rfl)) (pe_lst pa_nil) (nomark _))
 (pss_cons (ps_set (i := 3) sc__law_draw.nd rfl (Or.inl rfl) (pe_bm0 PySem.F.plainAttrs_list PySem.F.slot_list_pop PySem.F.type_list_pop mt_pop (pe_dget (hu_of hr) (pv 0) pe_str (fun _ _ => rfl))))
 (pss_cons (ps_if (pt_cmpR op_ge (pv 3) (pe_op op_pow pe_int pe_int) (nomark _))
 (pss_cons (ps_expr (pe_bm PySem.F.plainAttrs_list PySem.F.slot_list_append PySem.F.type_list_append mt_append (pe_dget (hu_of hr) (pv 0) pe_str (fun _ _ => rfl)) (pa_cons (pe_op op_divX (pv 3) (pe_callB (cb_max2 rfl) (by rfl) (B "max" (by decide)) (by decide +kernel) (pa_cons pe_int (pa_cons (pv 1) pa_nil)))) pa_nil)))
 (pss_one (ps_ret (pe_op op_modX (pe_callTy cb_int1 (by rfl) (B "int" (by decide)) (by decide +kernel) (pa_cons (pv 3) pa_nil)) (pv 1)))))
 pss_nil)
 (pss_one (ps_set (i := 2) sc__law_draw.nd rfl (Or.inl rfl) (pe_op op_plus (pv 2) (pe_op op_modX (pe_callTy cb_int1 (by rfl) (B "int" (by decide)) (by decide +kernel) (pa_cons (pv 3) pa_nil)) pe_int))))))
 pss_nil)
 (pss_cons (ps_set (i := 2) sc__law_draw.nd rfl (Or.inl rfl) (pe_op op_modX (pe_callTy cb_int1 (by rfl) (B "int" (by decide)) (by decide +kernel) (pa_cons (pe_op op_plus (pe_op op_times (pv 2) pe_int) pe_int) pa_nil)) pe_int))
 (pss_cons (ps_set (i := 2) sc__law_draw.nd rfl (Or.inl rfl) (pe_op op_modX (pe_callTy cb_int1 (by rfl) (B "int" (by decide)) (by decide +kernel) (pa_cons (pe_op op_plus (pe_op op_plus (pe_op op_times (pv 2) (pv 2)) (pe_op op_times pe_int (pe_dget (hu_of hr) (pv 0) pe_str (fun _ _ => rfl)))) pe_int) pa_nil)) pe_int))
 (pss_cons (ps_set (i := 2) sc__law_draw.nd rfl (Or.inl rfl) (pe_op op_modX (pe_callTy cb_int1 (by rfl) (B "int" (by decide)) (by decide +kernel) (pa_cons (pe_op op_times (pv 2) pe_int) pa_nil)) pe_int))
 (pss_one (ps_ret (pe_op op_modX (pe_callTy cb_int1 (by rfl) (B "int" (by decide)) (by decide +kernel) (pa_cons (pe_op op_divX (pv 2) pe_int) pa_nil)) (pv 1)))))))))), (by (try dsimp only [cxOf]); exact inferInstance), ?_⟩⟩
  intro xs μ Q hS
  obtain ⟨_, many, m, rest, rfl, ⟨L, k, hL, rfl⟩, hm, hm2, hQ⟩ := hS
  rw [show startP N__law_draw [.mr 1, .int many] = [some (.mr 1), some (.int many), none, none] from rfl]
  have fin : ∀ (x : Int) (L' : List Int) (k' : Int), L'.length ≤ 63 → ∃ y μ', Gc (DS L m k rest) (.int (x.fmod many)) (DS L' m k' rest) y μ' ∧ Q y μ' := fun x L' k' hl => fin_keep (hQ _ _ (fmod_b hm).1 (fmod_b hm).2 ⟨L', k', hl, rfl⟩)
  have m0 : many ≠ 0 := by omega
  have hq : ∀ (x : Int) {m : Int}, 0 < m → m ≤ 2147483647 → MulOk (x.fmod m) (x.fmod m) := fun x m hm0 hm1 => by
    have := fmod_b (x := x) (m := m) hm0
    exact mulR (by omega) (by omega)
  have d64 : ∀ x : Int, DivOk x 64 := fun x => .inl ⟨by decide, by decide⟩
  have DKl : ∀ a b c, (DK a b c).length ≤ lim := fun _ _ _ => by unfold lim DK; simp
  rcases List.eq_nil_or_concat L with rfl | ⟨I, c, rfl⟩
  · simp only [mBits, mEnumC, pSortX, mDNewT, mZipM, mDc, mLenSetL, mDGetT, mDGet2T, mDInT, mDPutT, mLockX, mLockEX, mKeysX, pLstX, pLenX, pMaxT, pSortT, str_to, str_ot, mPar3, mLockV, mLockE, mItemsC, mKeysC, mDGet2, pIsN, isNonP, pRepLM, mTruD, dkOfP, pPopAt, pIndex, mLstRgM, mTruth, pReprA, pLenD, pLstD, mDNew, pRepL, mLenSetN, mDIn, mSortSet, mSortSetL, mRevT, mForC, mSeqC, mLcC, pAbs, pMax2, pMin2, pInt1, mDGet, mDPut, mBM, mBM0, pPop, pAppend, pExtend, pSetL, mSub, mDisp, mPs, mPs0, mRevL, mRevLM, pLstOfM, mTupRg, mRg1, mRg2, pPlusM, lstItems, dictOfP, keyP, keysP, val_left, val_mixed, val_draws, put_draws, mLc, mLcM, mLc2, mFor, mSeqI, mRng1, mRng2, mZip, mEnum, mSl, mNoPart, mPart, mSeq, mAsg, mAsg2, mCB, mCons, mNil, mVar, mC, mOp, mUn, pU, mTup, mLst, mRet, mRetN, mLstM, getl, setl, mName, mCall, mCallK, mIf, mIfS, mTest, mAnd, mOr, mNot, mYes, mAndV, mOrV, mNotV, mNext, mNever, mBreak, mCont, mDrop, mChain, mPar, mGTup, mGCons, mGNil, pGcd, pI, pI0, pIx, pTimes, pPlus, pEq, pNe, pLen, pSum, pMaxS, pAll, pAny, pTupOf, pLstOf, pIn, pIsB, pIsi, items_tup, items_lst, items_kl, items_mr, items_tab, items_lot, items_fr, decide_true, decide_false, eqP_int, eqP_bl, eqP_str, eqP_tup2, kit_tt, kit_ii, kit_ib, tyP, mEnd, wipeP, List.map_cons, List.map_nil, List.getElem?_cons_zero, List.getElem?_cons_succ, List.set_cons_zero, List.set_cons_succ, atI_zero, atI_one, if_true, if_false, ite_true, ite_false, Bool.false_eq_true, List.length_cons, List.length_nil, Bool.not_true, Bool.not_false, DS, List.map_nil, eqP_nn]
    exact ⟨DKl _ _ _, mulL (by decide) (by decide), by decide, mulR (by decide) (by decide), by decide, hq _ (by decide) (by decide), mulL (by decide) (by decide), by decide, mulR (by decide) (by decide), by decide, d64 _, m0, fin _ [] _ hL⟩
  · have lI : I.length ≤ 62 := by simp at hL; omega
    by_cases hc : decide ((10 : Int) ^ (18 : Int).toNat ≤ c) = true
    · simp only [mBits, mEnumC, pSortX, mDNewT, mZipM, mDc, mLenSetL, mDGetT, mDGet2T, mDInT, mDPutT, mLockX, mLockEX, mKeysX, pLstX, pLenX, pMaxT, pSortT, str_to, str_ot, mPar3, mLockV, mLockE, mItemsC, mKeysC, mDGet2, pIsN, isNonP, pRepLM, mTruD, dkOfP, pPopAt, pIndex, mLstRgM, mTruth, pReprA, pLenD, pLstD, mDNew, pRepL, mLenSetN, mDIn, mSortSet, mSortSetL, mRevT, mForC, mSeqC, mLcC, pAbs, pMax2, pMin2, pInt1, mDGet, mDPut, mBM, mBM0, pPop, pAppend, pExtend, pSetL, mSub, mDisp, mPs, mPs0, mRevL, mRevLM, pLstOfM, mTupRg, mRg1, mRg2, pPlusM, lstItems, dictOfP, keyP, keysP, val_left, val_mixed, val_draws, put_draws, mLc, mLcM, mLc2, mFor, mSeqI, mRng1, mRng2, mZip, mEnum, mSl, mNoPart, mPart, mSeq, mAsg, mAsg2, mCB, mCons, mNil, mVar, mC, mOp, mUn, pU, mTup, mLst, mRet, mRetN, mLstM, getl, setl, mName, mCall, mCallK, mIf, mIfS, mTest, mAnd, mOr, mNot, mYes, mAndV, mOrV, mNotV, mNext, mNever, mBreak, mCont, mDrop, mChain, mPar, mGTup, mGCons, mGNil, pGcd, pI, pI0, pIx, pTimes, pPlus, pEq, pNe, pLen, pSum, pMaxS, pAll, pAny, pTupOf, pLstOf, pIn, pIsB, pIsi, items_tup, items_lst, items_kl, items_mr, items_tab, items_lot, items_fr, decide_true, decide_false, eqP_int, eqP_bl, eqP_str, eqP_tup2, kit_tt, kit_ii, kit_ib, tyP, mEnd, wipeP, List.map_cons, List.map_nil, List.getElem?_cons_zero, List.getElem?_cons_succ, List.set_cons_zero, List.set_cons_succ, atI_zero, atI_one, if_true, if_false, ite_true, ite_false, Bool.false_eq_true, List.length_cons, List.length_nil, Bool.not_true, Bool.not_false, DS, List.concat_eq_append, List.map_append, eqP_nc, last_c, List.dropLast_concat, hc]
      have h := fin c (I ++ [c.fdiv (if many > 2 then many else 2)]) (k + 1) (by simp; omega)
      simp only [DS, List.concat_eq_append, List.map_append, List.map_cons, List.map_nil] at h
      refine ⟨DKl _ _ _, mulL (by decide) (by decide), by decide, ⟨by decide, by decide, by decide⟩, .inl ⟨max2_pos many, ?_⟩, by rw [List.length_map]; unfold lim; omega, m0, h⟩
      have : (if many > 2 then many else 2).natAbs < 2 ^ 60 := by split <;> omega
      have := log_lt this
      omega
    · simp only [mBits, mEnumC, pSortX, mDNewT, mZipM, mDc, mLenSetL, mDGetT, mDGet2T, mDInT, mDPutT, mLockX, mLockEX, mKeysX, pLstX, pLenX, pMaxT, pSortT, str_to, str_ot, mPar3, mLockV, mLockE, mItemsC, mKeysC, mDGet2, pIsN, isNonP, pRepLM, mTruD, dkOfP, pPopAt, pIndex, mLstRgM, mTruth, pReprA, pLenD, pLstD, mDNew, pRepL, mLenSetN, mDIn, mSortSet, mSortSetL, mRevT, mForC, mSeqC, mLcC, pAbs, pMax2, pMin2, pInt1, mDGet, mDPut, mBM, mBM0, pPop, pAppend, pExtend, pSetL, mSub, mDisp, mPs, mPs0, mRevL, mRevLM, pLstOfM, mTupRg, mRg1, mRg2, pPlusM, lstItems, dictOfP, keyP, keysP, val_left, val_mixed, val_draws, put_draws, mLc, mLcM, mLc2, mFor, mSeqI, mRng1, mRng2, mZip, mEnum, mSl, mNoPart, mPart, mSeq, mAsg, mAsg2, mCB, mCons, mNil, mVar, mC, mOp, mUn, pU, mTup, mLst, mRet, mRetN, mLstM, getl, setl, mName, mCall, mCallK, mIf, mIfS, mTest, mAnd, mOr, mNot, mYes, mAndV, mOrV, mNotV, mNext, mNever, mBreak, mCont, mDrop, mChain, mPar, mGTup, mGCons, mGNil, pGcd, pI, pI0, pIx, pTimes, pPlus, pEq, pNe, pLen, pSum, pMaxS, pAll, pAny, pTupOf, pLstOf, pIn, pIsB, pIsi, items_tup, items_lst, items_kl, items_mr, items_tab, items_lot, items_fr, decide_true, decide_false, eqP_int, eqP_bl, eqP_str, eqP_tup2, kit_tt, kit_ii, kit_ib, tyP, mEnd, wipeP, List.map_cons, List.map_nil, List.getElem?_cons_zero, List.getElem?_cons_succ, List.set_cons_zero, List.set_cons_succ, atI_zero, atI_one, if_true, if_false, ite_true, ite_false, Bool.false_eq_true, List.length_cons, List.length_nil, Bool.not_true, Bool.not_false, DS, List.concat_eq_append, List.map_append, eqP_nc, last_c, List.dropLast_concat, eq_false_of_ne_true hc]
      have h := fun x => fin x I (k + 1) (by omega)
      simp only [DS, List.concat_eq_append, List.map_append, List.map_cons, List.map_nil] at h
      exact ⟨DKl _ _ _, mulL (by decide) (by decide), by decide, ⟨by decide, by decide, by decide⟩, by decide, mulR (by decide) (by decide), by decide, hq _ (by decide) (by decide), mulL (by decide) (by decide), by decide, mulR (by decide) (by decide), by decide, d64 _, m0, h _⟩
abbrev N__law_common : List Str := ["_law_one", "_law_other"]
theorem sc__law_common : FnScope N__law_common ["_law_one", "_law_other"] (defScope s__law_common) := ⟨rfl, rfl, rfl, by decide +kernel, rfl, by decide +kernel, by decide +kernel⟩
theorem ok__law_common (B : Blt mg) (h__law_common : Own K mg "_law_common" s__law_common) : Ok P w K mg base 1 "_law_common" s__law_common ["_law_one", "_law_other"] S__law_common := by
  obtain ⟨f_s, fd_s, F_s, g_s⟩ := h__law_common
  refine ⟨f_s, fd_s, F_s, g_s, F_s.binds (fun _ _ _ _ _ _ us hl => match us, hl with | [_, _], _ => rfl), FnG.of F_s sc__law_common (fun xs μ Q h => by first | exact h.1 | exact h.2.1 | (obtain ⟨⟩ := h)) fun cdv A outer s H hr hgd => ⟨_, _, (pss_cons (ps_par (i := 0) (j := 1) (by rfl) sc__law_common.nd rfl rfl (by decide) rfl rfl (pa_cons (pe_callB cb_abs (by rfl) (B "abs" (by decide)) (by decide +kernel) (pa_cons (pv 0) pa_nil)) (pa_cons (pe_callB cb_abs (by rfl) (B "abs" (by decide)) (by decide +kernel) (pa_cons (pv 1) pa_nil)) pa_nil)) (by rfl))
 (pss_cons (ps_while PassesOwn.never (pt_cmpR op_gt (pv 1) pe_int (nomark _))
 (pss_one (ps_par (i := 0) (j := 1) (by rfl) sc__law_common.nd rfl rfl (by decide) rfl rfl (pa_cons (pv 1) (pa_cons (pe_op op_modX (pe_callTy cb_int1 (by rfl) (B "int" (by decide)) (by decide +kernel) (pa_cons (pv 0) pa_nil)) (pv 1)) pa_nil)) (by rfl))))
 (pss_one (ps_ret (pv 0))))), (by (try dsimp only [cxOf]); exact inferInstance), ?_⟩⟩
  intro xs μ Q hS
  obtain ⟨_, a, b, rfl, hQ⟩ := hS
  rw [show startP N__law_common [.int a, .int b] = [some (.int a), some (.int b)] from rfl]
  have e1 : ∀ z : Int, (if z < 0 then -z else z) = ((z.natAbs : Nat) : Int) := fun z => by split <;> omega
  simp only [mBits, mEnumC, pSortX, mDNewT, mZipM, mDc, mLenSetL, mDGetT, mDGet2T, mDInT, mDPutT, mLockX, mLockEX, mKeysX, pLstX, pLenX, pMaxT, pSortT, str_to, str_ot, mPar3, mLockV, mLockE, mItemsC, mKeysC, mDGet2, pIsN, isNonP, pRepLM, mTruD, dkOfP, pPopAt, pIndex, mLstRgM, mTruth, pReprA, pLenD, pLstD, mDNew, pRepL, mLenSetN, mDIn, mSortSet, mSortSetL, mRevT, mForC, mSeqC, mLcC, pAbs, pMax2, pMin2, pInt1, mDGet, mDPut, mBM, mBM0, pPop, pAppend, pExtend, pSetL, mSub, mDisp, mPs, mPs0, mRevL, mRevLM, pLstOfM, mTupRg, mRg1, mRg2, pPlusM, lstItems, dictOfP, keyP, keysP, val_left, val_mixed, val_draws, put_draws, mLc, mLcM, mLc2, mFor, mSeqI, mRng1, mRng2, mZip, mEnum, mSl, mNoPart, mPart, mSeq, mAsg, mAsg2, mCB, mCons, mNil, mVar, mC, mOp, mUn, pU, mTup, mLst, mRet, mRetN, mLstM, getl, setl, mName, mCall, mCallK, mIf, mIfS, mTest, mAnd, mOr, mNot, mYes, mAndV, mOrV, mNotV, mNext, mNever, mBreak, mCont, mDrop, mChain, mPar, mGTup, mGCons, mGNil, pGcd, pI, pI0, pIx, pTimes, pPlus, pEq, pNe, pLen, pSum, pMaxS, pAll, pAny, pTupOf, pLstOf, pIn, pIsB, pIsi, items_tup, items_lst, items_kl, items_mr, items_tab, items_lot, items_fr, decide_true, decide_false, eqP_int, eqP_bl, eqP_str, eqP_tup2, kit_tt, kit_ii, kit_ib, tyP, mEnd, wipeP, List.map_cons, List.map_nil, List.getElem?_cons_zero, List.getElem?_cons_succ, List.set_cons_zero, List.set_cons_succ, atI_zero, atI_one, if_true, if_false, ite_true, ite_false, Bool.false_eq_true, List.length_cons, List.length_nil, Bool.not_true, Bool.not_false]
  simp only [e1]
  refine while_inv (fun k ρ μ' => (∃ (x y : Nat), ρ = [some (.int (x : Nat)), some (.int (y : Nat))] ∧ Nat.gcd x y = Nat.gcd a.natAbs b.natAbs ∧ k = y) ∧ μ' = μ) (n := b.natAbs) ⟨⟨_, _, rfl, rfl, rfl⟩, rfl⟩ fun k ρ μ1 hI => ?_
  obtain ⟨⟨x, y, rfl, hg, rfl⟩, rfl⟩ := hI
  simp only [mBits, mEnumC, pSortX, mDNewT, mZipM, mDc, mLenSetL, mDGetT, mDGet2T, mDInT, mDPutT, mLockX, mLockEX, mKeysX, pLstX, pLenX, pMaxT, pSortT, str_to, str_ot, mPar3, mLockV, mLockE, mItemsC, mKeysC, mDGet2, pIsN, isNonP, pRepLM, mTruD, dkOfP, pPopAt, pIndex, mLstRgM, mTruth, pReprA, pLenD, pLstD, mDNew, pRepL, mLenSetN, mDIn, mSortSet, mSortSetL, mRevT, mForC, mSeqC, mLcC, pAbs, pMax2, pMin2, pInt1, mDGet, mDPut, mBM, mBM0, pPop, pAppend, pExtend, pSetL, mSub, mDisp, mPs, mPs0, mRevL, mRevLM, pLstOfM, mTupRg, mRg1, mRg2, pPlusM, lstItems, dictOfP, keyP, keysP, val_left, val_mixed, val_draws, put_draws, mLc, mLcM, mLc2, mFor, mSeqI, mRng1, mRng2, mZip, mEnum, mSl, mNoPart, mPart, mSeq, mAsg, mAsg2, mCB, mCons, mNil, mVar, mC, mOp, mUn, pU, mTup, mLst, mRet, mRetN, mLstM, getl, setl, mName, mCall, mCallK, mIf, mIfS, mTest, mAnd, mOr, mNot, mYes, mAndV, mOrV, mNotV, mNext, mNever, mBreak, mCont, mDrop, mChain, mPar, mGTup, mGCons, mGNil, pGcd, pI, pI0, pIx, pTimes, pPlus, pEq, pNe, pLen, pSum, pMaxS, pAll, pAny, pTupOf, pLstOf, pIn, pIsB, pIsi, items_tup, items_lst, items_kl, items_mr, items_tab, items_lot, items_fr, decide_true, decide_false, eqP_int, eqP_bl, eqP_str, eqP_tup2, kit_tt, kit_ii, kit_ib, tyP, mEnd, wipeP, List.map_cons, List.map_nil, List.getElem?_cons_zero, List.getElem?_cons_succ, List.set_cons_zero, List.set_cons_succ, atI_zero, atI_one, if_true, if_false, ite_true, ite_false, Bool.false_eq_true, List.length_cons, List.length_nil, Bool.not_true, Bool.not_false, fmodN]
  by_cases h0 : 0 < k
  · rw [decide_eq_true (by omega), if_pos rfl]
    exact ⟨by omega, x % k, Nat.mod_lt _ h0, ⟨k, x % k, rfl, by rw [← hg, Nat.gcd_comm k, ← Nat.gcd_rec, Nat.gcd_comm], rfl⟩, trivial⟩
  · rw [decide_eq_false (by omega), if_neg (by decide)]
    have : k = 0 := by omega
    subst this
    rw [Nat.gcd_zero_right] at hg
    rw [hg]
    exact fin_keep hQ
abbrev N__law_is_less : List Str := ["_law_one", "_law_other"]
theorem sc__law_is_less : FnScope N__law_is_less ["_law_one", "_law_other"] (defScope s__law_is_less) := ⟨rfl, rfl, rfl, by decide +kernel, rfl, by decide +kernel, by decide +kernel⟩
theorem ok__law_is_less (B : Blt mg) (h__law_is_less : Own K mg "_law_is_less" s__law_is_less) : Ok P w K mg base 1 "_law_is_less" s__law_is_less ["_law_one", "_law_other"] S__law_is_less := by
  obtain ⟨f_s, fd_s, F_s, g_s⟩ := h__law_is_less
  refine ⟨f_s, fd_s, F_s, g_s, F_s.binds (fun _ _ _ _ _ _ us hl => match us, hl with | [_, _], _ => rfl), FnG.of F_s sc__law_is_less (fun xs μ Q h => by first | exact h.1 | exact h.2.1 | (obtain ⟨⟩ := h)) fun cdv A outer s H hr hgd => ⟨_, _, (pss_one (ps_ret (pe_cmpR op_lt (pe_op op_times (pe_ix ix_seq (pv 0) pe_int (fun _ _ => rfl)) (pe_ix ix_seq (pv 1) pe_int (fun _ _ => rfl))) (pe_op op_times (pe_ix ix_seq (pv 1) pe_int (fun _ _ => rfl)) (pe_ix ix_seq (pv 0) pe_int (fun _ _ => rfl))) (nomark _)))), (by (try dsimp only [cxOf]); exact inferInstance), ?_⟩⟩
  intro xs μ Q hS
  obtain ⟨_, p, q, rfl, hp, hq, hQ⟩ := hS
  rw [show startP N__law_is_less [frP p, frP q] = [some (frP p), some (frP q)] from rfl]
  obtain ⟨m1, m2, m3, m4⟩ := fr_mul hp hq
  obtain ⟨n1, n2, n3, n4⟩ := fr_mul hq hp
  simp only [mBits, mEnumC, pSortX, mDNewT, mZipM, mDc, mLenSetL, mDGetT, mDGet2T, mDInT, mDPutT, mLockX, mLockEX, mKeysX, pLstX, pLenX, pMaxT, pSortT, str_to, str_ot, mPar3, mLockV, mLockE, mItemsC, mKeysC, mDGet2, pIsN, isNonP, pRepLM, mTruD, dkOfP, pPopAt, pIndex, mLstRgM, mTruth, pReprA, pLenD, pLstD, mDNew, pRepL, mLenSetN, mDIn, mSortSet, mSortSetL, mRevT, mForC, mSeqC, mLcC, pAbs, pMax2, pMin2, pInt1, mDGet, mDPut, mBM, mBM0, pPop, pAppend, pExtend, pSetL, mSub, mDisp, mPs, mPs0, mRevL, mRevLM, pLstOfM, mTupRg, mRg1, mRg2, pPlusM, lstItems, dictOfP, keyP, keysP, val_left, val_mixed, val_draws, put_draws, mLc, mLcM, mLc2, mFor, mSeqI, mRng1, mRng2, mZip, mEnum, mSl, mNoPart, mPart, mSeq, mAsg, mAsg2, mCB, mCons, mNil, mVar, mC, mOp, mUn, pU, mTup, mLst, mRet, mRetN, mLstM, getl, setl, mName, mCall, mCallK, mIf, mIfS, mTest, mAnd, mOr, mNot, mYes, mAndV, mOrV, mNotV, mNext, mNever, mBreak, mCont, mDrop, mChain, mPar, mGTup, mGCons, mGNil, pGcd, pI, pI0, pIx, pTimes, pPlus, pEq, pNe, pLen, pSum, pMaxS, pAll, pAny, pTupOf, pLstOf, pIn, pIsB, pIsi, items_tup, items_lst, items_kl, items_mr, items_tab, items_lot, items_fr, decide_true, decide_false, eqP_int, eqP_bl, eqP_str, eqP_tup2, kit_tt, kit_ii, kit_ib, tyP, mEnd, wipeP, List.map_cons, List.map_nil, List.getElem?_cons_zero, List.getElem?_cons_succ, List.set_cons_zero, List.set_cons_succ, atI_zero, atI_one, if_true, if_false, ite_true, ite_false, Bool.false_eq_true, List.length_cons, List.length_nil, Bool.not_true, Bool.not_false, frP]
  refine ⟨m2, n2, ?_⟩
  rw [decide_eq_decide.mpr (Rat.lt_iff p q).symm]
  exact fin_keep hQ
abbrev N_is_integer : List Str := ["thing"]
theorem sc_is_integer : FnScope N_is_integer ["thing"] (defScope s_is_integer) := ⟨rfl, rfl, rfl, by decide +kernel, rfl, by decide +kernel, by decide +kernel⟩
theorem ok_is_integer (B : Blt mg) (h_is_integer : Own K mg "is_integer" s_is_integer) : Ok P w K mg base 1 "is_integer" s_is_integer ["thing"] S_is_integer := by
  obtain ⟨f_s, fd_s, F_s, g_s⟩ := h_is_integer
  refine ⟨f_s, fd_s, F_s, g_s, F_s.binds (fun _ _ _ _ _ _ us hl => match us, hl with | [_], _ => rfl), FnG.of F_s sc_is_integer (fun xs μ Q h => by first | exact h.1 | exact h.2.1 | (obtain ⟨⟩ := h)) fun cdv A outer s H hr hgd => ⟨_, _, (pss_one (ps_ret (pe_and (pe_callB call_isi (by rfl) (B "isinstance" (by decide)) (by decide +kernel) (pa_cons (pv 0) (pa_cons (pe_bltn (v := .ty "int") (u := .type "int") (by rfl) (B "int" (by decide)) (by decide +kernel) rfl) pa_nil))) (pe_one (pe_not (pe_callB call_isi (by rfl) (B "isinstance" (by decide)) (by decide +kernel) (pa_cons (pv 0) (pa_cons (pe_bltn (v := .ty "bool") (u := .type "bool") (by rfl) (B "bool" (by decide)) (by decide +kernel) rfl) pa_nil)))))))), (by (try dsimp only [cxOf]); exact inferInstance), ?_⟩⟩
  intro xs μ Q hS
  obtain ⟨_, i, rfl, hQ⟩ := hS
  rw [show startP N_is_integer [.int i] = [some (.int i)] from rfl]
  simp only [mBits, mEnumC, pSortX, mDNewT, mZipM, mDc, mLenSetL, mDGetT, mDGet2T, mDInT, mDPutT, mLockX, mLockEX, mKeysX, pLstX, pLenX, pMaxT, pSortT, str_to, str_ot, mPar3, mLockV, mLockE, mItemsC, mKeysC, mDGet2, pIsN, isNonP, pRepLM, mTruD, dkOfP, pPopAt, pIndex, mLstRgM, mTruth, pReprA, pLenD, pLstD, mDNew, pRepL, mLenSetN, mDIn, mSortSet, mSortSetL, mRevT, mForC, mSeqC, mLcC, pAbs, pMax2, pMin2, pInt1, mDGet, mDPut, mBM, mBM0, pPop, pAppend, pExtend, pSetL, mSub, mDisp, mPs, mPs0, mRevL, mRevLM, pLstOfM, mTupRg, mRg1, mRg2, pPlusM, lstItems, dictOfP, keyP, keysP, val_left, val_mixed, val_draws, put_draws, mLc, mLcM, mLc2, mFor, mSeqI, mRng1, mRng2, mZip, mEnum, mSl, mNoPart, mPart, mSeq, mAsg, mAsg2, mCB, mCons, mNil, mVar, mC, mOp, mUn, pU, mTup, mLst, mRet, mRetN, mLstM, getl, setl, mName, mCall, mCallK, mIf, mIfS, mTest, mAnd, mOr, mNot, mYes, mAndV, mOrV, mNotV, mNext, mNever, mBreak, mCont, mDrop, mChain, mPar, mGTup, mGCons, mGNil, pGcd, pI, pI0, pIx, pTimes, pPlus, pEq, pNe, pLen, pSum, pMaxS, pAll, pAny, pTupOf, pLstOf, pIn, pIsB, pIsi, items_tup, items_lst, items_kl, items_mr, items_tab, items_lot, items_fr, decide_true, decide_false, eqP_int, eqP_bl, eqP_str, eqP_tup2, kit_tt, kit_ii, kit_ib, tyP, mEnd, wipeP, List.map_cons, List.map_nil, List.getElem?_cons_zero, List.getElem?_cons_succ, List.set_cons_zero, List.set_cons_succ, atI_zero, atI_one, if_true, if_false, ite_true, ite_false, Bool.false_eq_true, List.length_cons, List.length_nil, Bool.not_true, Bool.not_false]
  exact fin_keep hQ
abbrev N_lowest : List Str := ["top", "bottom", "shared"]
theorem sc_lowest : FnScope N_lowest ["top", "bottom"] (defScope s_lowest) := ⟨rfl, rfl, rfl, by decide +kernel, rfl, by decide +kernel, by decide +kernel⟩
theorem ok_lowest (B : Blt mg) (h_lowest : Own K mg "lowest" s_lowest) (i_gcd : mg "gcd" = some (.builtin "math.gcd")) : Ok P w K mg base 1 "lowest" s_lowest ["top", "bottom"] S_lowest := by
  obtain ⟨f_s, fd_s, F_s, g_s⟩ := h_lowest
  refine ⟨f_s, fd_s, F_s, g_s, F_s.binds (fun _ _ _ _ _ _ us hl => match us, hl with | [_, _], _ => rfl), FnG.of F_s sc_lowest (fun xs μ Q h => by first | exact h.1 | exact h.2.1 | (obtain ⟨⟩ := h)) fun cdv A outer s H hr hgd => ⟨_, _, (pss_cons (ps_set (i := 2) sc_lowest.nd rfl (Or.inl rfl) (pe_callBfun cr_gcd (by rfl) i_gcd (pa_cons (pv 0) (pa_cons (pv 1) pa_nil))))
 (pss_one (ps_ret (pe_tup (pa_cons (pe_op op_divX (pv 0) (pv 2)) (pa_cons (pe_op op_divX (pv 1) (pv 2)) pa_nil)))))), (by (try dsimp only [cxOf]); exact inferInstance), ?_⟩⟩
  intro xs μ Q hS
  obtain ⟨_, a, b, rfl, hb, hz, hQ⟩ := hS
  rw [show startP N_lowest [.int a, .int b] = [some (.int a), some (.int b), none] from rfl]
  simp only [mBits, mEnumC, pSortX, mDNewT, mZipM, mDc, mLenSetL, mDGetT, mDGet2T, mDInT, mDPutT, mLockX, mLockEX, mKeysX, pLstX, pLenX, pMaxT, pSortT, str_to, str_ot, mPar3, mLockV, mLockE, mItemsC, mKeysC, mDGet2, pIsN, isNonP, pRepLM, mTruD, dkOfP, pPopAt, pIndex, mLstRgM, mTruth, pReprA, pLenD, pLstD, mDNew, pRepL, mLenSetN, mDIn, mSortSet, mSortSetL, mRevT, mForC, mSeqC, mLcC, pAbs, pMax2, pMin2, pInt1, mDGet, mDPut, mBM, mBM0, pPop, pAppend, pExtend, pSetL, mSub, mDisp, mPs, mPs0, mRevL, mRevLM, pLstOfM, mTupRg, mRg1, mRg2, pPlusM, lstItems, dictOfP, keyP, keysP, val_left, val_mixed, val_draws, put_draws, mLc, mLcM, mLc2, mFor, mSeqI, mRng1, mRng2, mZip, mEnum, mSl, mNoPart, mPart, mSeq, mAsg, mAsg2, mCB, mCons, mNil, mVar, mC, mOp, mUn, pU, mTup, mLst, mRet, mRetN, mLstM, getl, setl, mName, mCall, mCallK, mIf, mIfS, mTest, mAnd, mOr, mNot, mYes, mAndV, mOrV, mNotV, mNext, mNever, mBreak, mCont, mDrop, mChain, mPar, mGTup, mGCons, mGNil, pGcd, pI, pI0, pIx, pTimes, pPlus, pEq, pNe, pLen, pSum, pMaxS, pAll, pAny, pTupOf, pLstOf, pIn, pIsB, pIsi, items_tup, items_lst, items_kl, items_mr, items_tab, items_lot, items_fr, decide_true, decide_false, eqP_int, eqP_bl, eqP_str, eqP_tup2, kit_tt, kit_ii, kit_ib, tyP, mEnd, wipeP, List.map_cons, List.map_nil, List.getElem?_cons_zero, List.getElem?_cons_succ, List.set_cons_zero, List.set_cons_succ, atI_zero, atI_one, if_true, if_false, ite_true, ite_false, Bool.false_eq_true, List.length_cons, List.length_nil, Bool.not_true, Bool.not_false]
  have hd : DivOk a ((Nat.gcd a.natAbs b.natAbs : Nat) : Int) := gcd_div hb hz
  have hd2 : DivOk b ((Nat.gcd a.natAbs b.natAbs : Nat) : Int) := hd
  obtain ⟨e1, e2⟩ := lowest_eq a b hb
  refine ⟨hd, hd2, by decide, ?_⟩
  rw [e1, e2]
  exact fin_keep hQ
abbrev N_is_power_of_two : List Str := ["number"]
theorem sc_is_power_of_two : FnScope N_is_power_of_two ["number"] (defScope s_is_power_of_two) := ⟨rfl, rfl, rfl, by decide +kernel, rfl, by decide +kernel, by decide +kernel⟩
theorem ok_is_power_of_two (B : Blt mg) (h_is_power_of_two : Own K mg "is_power_of_two" s_is_power_of_two) : Ok P w K mg base 1 "is_power_of_two" s_is_power_of_two ["number"] S_is_power_of_two := by
  obtain ⟨f_s, fd_s, F_s, g_s⟩ := h_is_power_of_two
  refine ⟨f_s, fd_s, F_s, g_s, F_s.binds (fun _ _ _ _ _ _ us hl => match us, hl with | [_], _ => rfl), FnG.of F_s sc_is_power_of_two (fun xs μ Q h => by first | exact h.1 | exact h.2.1 | (obtain ⟨⟩ := h)) fun cdv A outer s H hr hgd => ⟨_, _, (pss_one (ps_ret (pe_cmpR (op_eqX hr.units) (pe_op op_and (pv 0) (pe_op op_sub (pv 0) pe_int)) pe_int (nomark _)))), (by (try dsimp only [cxOf]); exact inferInstance), ?_⟩⟩
  intro xs μ Q hS
  obtain ⟨_, n, rfl, h0, hQ⟩ := hS
  rw [show startP N_is_power_of_two [.int n] = [some (.int n)] from rfl]
  simp only [mBits, mEnumC, pSortX, mDNewT, mZipM, mDc, mLenSetL, mDGetT, mDGet2T, mDInT, mDPutT, mLockX, mLockEX, mKeysX, pLstX, pLenX, pMaxT, pSortT, str_to, str_ot, mPar3, mLockV, mLockE, mItemsC, mKeysC, mDGet2, pIsN, isNonP, pRepLM, mTruD, dkOfP, pPopAt, pIndex, mLstRgM, mTruth, pReprA, pLenD, pLstD, mDNew, pRepL, mLenSetN, mDIn, mSortSet, mSortSetL, mRevT, mForC, mSeqC, mLcC, pAbs, pMax2, pMin2, pInt1, mDGet, mDPut, mBM, mBM0, pPop, pAppend, pExtend, pSetL, mSub, mDisp, mPs, mPs0, mRevL, mRevLM, pLstOfM, mTupRg, mRg1, mRg2, pPlusM, lstItems, dictOfP, keyP, keysP, val_left, val_mixed, val_draws, put_draws, mLc, mLcM, mLc2, mFor, mSeqI, mRng1, mRng2, mZip, mEnum, mSl, mNoPart, mPart, mSeq, mAsg, mAsg2, mCB, mCons, mNil, mVar, mC, mOp, mUn, pU, mTup, mLst, mRet, mRetN, mLstM, getl, setl, mName, mCall, mCallK, mIf, mIfS, mTest, mAnd, mOr, mNot, mYes, mAndV, mOrV, mNotV, mNext, mNever, mBreak, mCont, mDrop, mChain, mPar, mGTup, mGCons, mGNil, pGcd, pI, pI0, pIx, pTimes, pPlus, pEq, pNe, pLen, pSum, pMaxS, pAll, pAny, pTupOf, pLstOf, pIn, pIsB, pIsi, items_tup, items_lst, items_kl, items_mr, items_tab, items_lot, items_fr, decide_true, decide_false, eqP_int, eqP_bl, eqP_str, eqP_tup2, kit_tt, kit_ii, kit_ib, tyP, mEnd, wipeP, List.map_cons, List.map_nil, List.getElem?_cons_zero, List.getElem?_cons_succ, List.set_cons_zero, List.set_cons_succ, atI_zero, atI_one, if_true, if_false, ite_true, ite_false, Bool.false_eq_true, List.length_cons, List.length_nil, Bool.not_true, Bool.not_false]
  rw [and_pw2 h0]
  exact fin_keep hQ
abbrev N_is_above : List Str := ["one", "other"]
theorem sc_is_above : FnScope N_is_above ["one", "other"] (defScope s_is_above) := ⟨rfl, rfl, rfl, by decide +kernel, rfl, by decide +kernel, by decide +kernel⟩
theorem ok_is_above (B : Blt mg) (h_is_above : Own K mg "is_above" s_is_above) : Ok P w K mg base 1 "is_above" s_is_above ["one", "other"] S_is_above := by
  obtain ⟨f_s, fd_s, F_s, g_s⟩ := h_is_above
  refine ⟨f_s, fd_s, F_s, g_s, F_s.binds (fun _ _ _ _ _ _ us hl => match us, hl with | [_, _], _ => rfl), FnG.of F_s sc_is_above (fun xs μ Q h => by first | exact h.1 | exact h.2.1 | (obtain ⟨⟩ := h)) fun cdv A outer s H hr hgd => ⟨_, _, (pss_one (ps_ret (pe_cmpR op_gt (pe_op op_times (pe_ix ix_seq (pv 0) pe_int (fun _ _ => rfl)) (pe_ix ix_seq (pv 1) pe_int (fun _ _ => rfl))) (pe_op op_times (pe_ix ix_seq (pv 1) pe_int (fun _ _ => rfl)) (pe_ix ix_seq (pv 0) pe_int (fun _ _ => rfl))) (nomark _)))), (by (try dsimp only [cxOf]); exact inferInstance), ?_⟩⟩
  intro xs μ Q hS
  obtain ⟨_, p, q, rfl, hp, hq, hQ⟩ := hS
  rw [show startP N_is_above [frP p, frP q] = [some (frP p), some (frP q)] from rfl]
  obtain ⟨m1, m2, m3, m4⟩ := fr_mul hp hq
  obtain ⟨n1, n2, n3, n4⟩ := fr_mul hq hp
  simp only [mBits, mEnumC, pSortX, mDNewT, mZipM, mDc, mLenSetL, mDGetT, mDGet2T, mDInT, mDPutT, mLockX, mLockEX, mKeysX, pLstX, pLenX, pMaxT, pSortT, str_to, str_ot, mPar3, mLockV, mLockE, mItemsC, mKeysC, mDGet2, pIsN, isNonP, pRepLM, mTruD, dkOfP, pPopAt, pIndex, mLstRgM, mTruth, pReprA, pLenD, pLstD, mDNew, pRepL, mLenSetN, mDIn, mSortSet, mSortSetL, mRevT, mForC, mSeqC, mLcC, pAbs, pMax2, pMin2, pInt1, mDGet, mDPut, mBM, mBM0, pPop, pAppend, pExtend, pSetL, mSub, mDisp, mPs, mPs0, mRevL, mRevLM, pLstOfM, mTupRg, mRg1, mRg2, pPlusM, lstItems, dictOfP, keyP, keysP, val_left, val_mixed, val_draws, put_draws, mLc, mLcM, mLc2, mFor, mSeqI, mRng1, mRng2, mZip, mEnum, mSl, mNoPart, mPart, mSeq, mAsg, mAsg2, mCB, mCons, mNil, mVar, mC, mOp, mUn, pU, mTup, mLst, mRet, mRetN, mLstM, getl, setl, mName, mCall, mCallK, mIf, mIfS, mTest, mAnd, mOr, mNot, mYes, mAndV, mOrV, mNotV, mNext, mNever, mBreak, mCont, mDrop, mChain, mPar, mGTup, mGCons, mGNil, pGcd, pI, pI0, pIx, pTimes, pPlus, pEq, pNe, pLen, pSum, pMaxS, pAll, pAny, pTupOf, pLstOf, pIn, pIsB, pIsi, items_tup, items_lst, items_kl, items_mr, items_tab, items_lot, items_fr, decide_true, decide_false, eqP_int, eqP_bl, eqP_str, eqP_tup2, kit_tt, kit_ii, kit_ib, tyP, mEnd, wipeP, List.map_cons, List.map_nil, List.getElem?_cons_zero, List.getElem?_cons_succ, List.set_cons_zero, List.set_cons_succ, atI_zero, atI_one, if_true, if_false, ite_true, ite_false, Bool.false_eq_true, List.length_cons, List.length_nil, Bool.not_true, Bool.not_false]
  refine ⟨m2, n2, ?_⟩
  rw [decide_eq_decide.mpr (lt_cross p q)]
  exact fin_keep hQ
abbrev N__law_is_integer : List Str := ["_law_thing"]
theorem sc__law_is_integer : FnScope N__law_is_integer ["_law_thing"] (defScope s__law_is_integer) := ⟨rfl, rfl, rfl, by decide +kernel, rfl, by decide +kernel, by decide +kernel⟩
theorem ok__law_is_integer (B : Blt mg) (h__law_is_integer : Own K mg "_law_is_integer" s__law_is_integer) : Ok P w K mg base 1 "_law_is_integer" s__law_is_integer ["_law_thing"] S__law_is_integer := by
  obtain ⟨f_s, fd_s, F_s, g_s⟩ := h__law_is_integer
  refine ⟨f_s, fd_s, F_s, g_s, F_s.binds (fun _ _ _ _ _ _ us hl => match us, hl with | [_], _ => rfl), FnG.of F_s sc__law_is_integer (fun xs μ Q h => by first | exact h.1 | exact h.2.1 | (obtain ⟨⟩ := h)) fun cdv A outer s H hr hgd => ⟨_, _, (pss_one (ps_ret (pe_and (pe_callB call_isi (by rfl) (B "isinstance" (by decide)) (by decide +kernel) (pa_cons (pv 0) (pa_cons (pe_bltn (v := .ty "int") (u := .type "int") (by rfl) (B "int" (by decide)) (by decide +kernel) rfl) pa_nil))) (pe_one (pe_not (pe_callB call_isi (by rfl) (B "isinstance" (by decide)) (by decide +kernel) (pa_cons (pv 0) (pa_cons (pe_bltn (v := .ty "bool") (u := .type "bool") (by rfl) (B "bool" (by decide)) (by decide +kernel) rfl) pa_nil)))))))), (by (try dsimp only [cxOf]); exact inferInstance), ?_⟩⟩
  intro xs μ Q hS
  obtain ⟨_, i, rfl, hQ⟩ := hS
  rw [show startP N__law_is_integer [.int i] = [some (.int i)] from rfl]
  simp only [mBits, mEnumC, pSortX, mDNewT, mZipM, mDc, mLenSetL, mDGetT, mDGet2T, mDInT, mDPutT, mLockX, mLockEX, mKeysX, pLstX, pLenX, pMaxT, pSortT, str_to, str_ot, mPar3, mLockV, mLockE, mItemsC, mKeysC, mDGet2, pIsN, isNonP, pRepLM, mTruD, dkOfP, pPopAt, pIndex, mLstRgM, mTruth, pReprA, pLenD, pLstD, mDNew, pRepL, mLenSetN, mDIn, mSortSet, mSortSetL, mRevT, mForC, mSeqC, mLcC, pAbs, pMax2, pMin2, pInt1, mDGet, mDPut, mBM, mBM0, pPop, pAppend, pExtend, pSetL, mSub, mDisp, mPs, mPs0, mRevL, mRevLM, pLstOfM, mTupRg, mRg1, mRg2, pPlusM, lstItems, dictOfP, keyP, keysP, val_left, val_mixed, val_draws, put_draws, mLc, mLcM, mLc2, mFor, mSeqI, mRng1, mRng2, mZip, mEnum, mSl, mNoPart, mPart, mSeq, mAsg, mAsg2, mCB, mCons, mNil, mVar, mC, mOp, mUn, pU, mTup, mLst, mRet, mRetN, mLstM, getl, setl, mName, mCall, mCallK, mIf, mIfS, mTest, mAnd, mOr, mNot, mYes, mAndV, mOrV, mNotV, mNext, mNever, mBreak, mCont, mDrop, mChain, mPar, mGTup, mGCons, mGNil, pGcd, pI, pI0, pIx, pTimes, pPlus, pEq, pNe, pLen, pSum, pMaxS, pAll, pAny, pTupOf, pLstOf, pIn, pIsB, pIsi, items_tup, items_lst, items_kl, items_mr, items_tab, items_lot, items_fr, decide_true, decide_false, eqP_int, eqP_bl, eqP_str, eqP_tup2, kit_tt, kit_ii, kit_ib, tyP, mEnd, wipeP, List.map_cons, List.map_nil, List.getElem?_cons_zero, List.getElem?_cons_succ, List.set_cons_zero, List.set_cons_succ, atI_zero, atI_one, if_true, if_false, ite_true, ite_false, Bool.false_eq_true, List.length_cons, List.length_nil, Bool.not_true, Bool.not_false]
  exact fin_keep hQ
abbrev N__law_pick : List Str := ["_law_deck_here", "_law_some"]
theorem sc__law_pick : FnScope N__law_pick ["_law_deck_here", "_law_some"] (defScope s__law_pick) := ⟨rfl, rfl, rfl, by decide +kernel, rfl, by decide +kernel, by decide +kernel⟩
theorem ok__law_pick (B : Blt mg) (h__law_pick : Own K mg "_law_pick" s__law_pick) (k__law_draw : Ok P w K mg base 1 "_law_draw" s__law_draw ["_law_deck_here", "_law_many"] S__law_draw) : Ok P w K mg base 2 "_law_pick" s__law_pick ["_law_deck_here", "_law_some"] S__law_pick := by
  obtain ⟨f_s, fd_s, F_s, g_s⟩ := h__law_pick
  obtain ⟨f__law_draw, fd__law_draw, F__law_draw, g__law_draw, b__law_draw, G__law_draw⟩ := k__law_draw
  refine ⟨f_s, fd_s, F_s, g_s, F_s.binds (fun _ _ _ _ _ _ us hl => match us, hl with | [_, _], _ => rfl), FnG.of F_s sc__law_pick (fun xs μ Q h => by first | exact h.1 | exact h.2.1 | (obtain ⟨⟩ := h)) fun cdv A outer s H hr hgd => ⟨_, _, (pss_one (ps_ret (pe_ix ix_seq (pv 1) (pe_callG (G__law_draw.mono (by decide)) hr hgd (by rfl) g__law_draw F__law_draw.kp b__law_draw (pa_cons (pv 0) (pa_cons (pe_callB cb_len (by rfl) (B "len" (by decide)) (by decide +kernel) (pa_cons (pv 1) pa_nil)) pa_nil))) (fun _ _ => rfl)))), (by (try dsimp only [cxOf]); exact inferInstance), ?_⟩⟩
  intro xs μ Q hS
  obtain ⟨_, x, items, m, rest, rfl, hx, hD, hi, hi2, hQ⟩ := hS
  rw [show startP N__law_pick [.mr 1, x] = [some (.mr 1), some x] from rfl]
  rcases hx with hx | ⟨j, rfl, hj⟩
  · have key : S__law_draw [.mr 1, .int (items.length : Nat)] μ fun y μ2 => match y with | .int i => (match atI items i with | some v => ∃ y μ', Gc μ v μ2 y μ' ∧ Q y μ' | none => False) | _ => False := by
      refine ⟨rfl, _, _, _, rfl, hD, by omega, by omega, fun n μ' h0 h1 hD' => ?_⟩
      obtain ⟨j, rfl⟩ : ∃ j : Nat, n = (j : Int) := ⟨n.toNat, by omega⟩
      have hj : j < items.length := by omega
      simp only [atI_some (List.getElem?_eq_getElem hj)]
      exact fin_keep (hQ _ (List.getElem_mem hj) _ hD')
    cases x <;> simp only [seqP, reduceCtorEq, Option.some.injEq] at hx
    · subst hx
      simp only [mBits, mEnumC, pSortX, mDNewT, mZipM, mDc, mLenSetL, mDGetT, mDGet2T, mDInT, mDPutT, mLockX, mLockEX, mKeysX, pLstX, pLenX, pMaxT, pSortT, str_to, str_ot, mPar3, mLockV, mLockE, mItemsC, mKeysC, mDGet2, pIsN, isNonP, pRepLM, mTruD, dkOfP, pPopAt, pIndex, mLstRgM, mTruth, pReprA, pLenD, pLstD, mDNew, pRepL, mLenSetN, mDIn, mSortSet, mSortSetL, mRevT, mForC, mSeqC, mLcC, pAbs, pMax2, pMin2, pInt1, mDGet, mDPut, mBM, mBM0, pPop, pAppend, pExtend, pSetL, mSub, mDisp, mPs, mPs0, mRevL, mRevLM, pLstOfM, mTupRg, mRg1, mRg2, pPlusM, lstItems, dictOfP, keyP, keysP, val_left, val_mixed, val_draws, put_draws, mLc, mLcM, mLc2, mFor, mSeqI, mRng1, mRng2, mZip, mEnum, mSl, mNoPart, mPart, mSeq, mAsg, mAsg2, mCB, mCons, mNil, mVar, mC, mOp, mUn, pU, mTup, mLst, mRet, mRetN, mLstM, getl, setl, mName, mCall, mCallK, mIf, mIfS, mTest, mAnd, mOr, mNot, mYes, mAndV, mOrV, mNotV, mNext, mNever, mBreak, mCont, mDrop, mChain, mPar, mGTup, mGCons, mGNil, pGcd, pI, pI0, pIx, pTimes, pPlus, pEq, pNe, pLen, pSum, pMaxS, pAll, pAny, pTupOf, pLstOf, pIn, pIsB, pIsi, items_tup, items_lst, items_kl, items_mr, items_tab, items_lot, items_fr, decide_true, decide_false, eqP_int, eqP_bl, eqP_str, eqP_tup2, kit_tt, kit_ii, kit_ib, tyP, mEnd, wipeP, List.map_cons, List.map_nil, List.getElem?_cons_zero, List.getElem?_cons_succ, List.set_cons_zero, List.set_cons_succ, atI_zero, atI_one, if_true, if_false, ite_true, ite_false, Bool.false_eq_true, List.length_cons, List.length_nil, Bool.not_true, Bool.not_false]
      exact key
    · subst hx
      simp only [mBits, mEnumC, pSortX, mDNewT, mZipM, mDc, mLenSetL, mDGetT, mDGet2T, mDInT, mDPutT, mLockX, mLockEX, mKeysX, pLstX, pLenX, pMaxT, pSortT, str_to, str_ot, mPar3, mLockV, mLockE, mItemsC, mKeysC, mDGet2, pIsN, isNonP, pRepLM, mTruD, dkOfP, pPopAt, pIndex, mLstRgM, mTruth, pReprA, pLenD, pLstD, mDNew, pRepL, mLenSetN, mDIn, mSortSet, mSortSetL, mRevT, mForC, mSeqC, mLcC, pAbs, pMax2, pMin2, pInt1, mDGet, mDPut, mBM, mBM0, pPop, pAppend, pExtend, pSetL, mSub, mDisp, mPs, mPs0, mRevL, mRevLM, pLstOfM, mTupRg, mRg1, mRg2, pPlusM, lstItems, dictOfP, keyP, keysP, val_left, val_mixed, val_draws, put_draws, mLc, mLcM, mLc2, mFor, mSeqI, mRng1, mRng2, mZip, mEnum, mSl, mNoPart, mPart, mSeq, mAsg, mAsg2, mCB, mCons, mNil, mVar, mC, mOp, mUn, pU, mTup, mLst, mRet, mRetN, mLstM, getl, setl, mName, mCall, mCallK, mIf, mIfS, mTest, mAnd, mOr, mNot, mYes, mAndV, mOrV, mNotV, mNext, mNever, mBreak, mCont, mDrop, mChain, mPar, mGTup, mGCons, mGNil, pGcd, pI, pI0, pIx, pTimes, pPlus, pEq, pNe, pLen, pSum, pMaxS, pAll, pAny, pTupOf, pLstOf, pIn, pIsB, pIsi, items_tup, items_lst, items_kl, items_mr, items_tab, items_lot, items_fr, decide_true, decide_false, eqP_int, eqP_bl, eqP_str, eqP_tup2, kit_tt, kit_ii, kit_ib, tyP, mEnd, wipeP, List.map_cons, List.map_nil, List.getElem?_cons_zero, List.getElem?_cons_succ, List.set_cons_zero, List.set_cons_succ, atI_zero, atI_one, if_true, if_false, ite_true, ite_false, Bool.false_eq_true, List.length_cons, List.length_nil, Bool.not_true, Bool.not_false]
      exact key
  · have e1 : ∀ μ', Dk m rest μ' → μ'[j + 2]? = some (.lst items) := fun μ' h => (h.get j).trans hj
    simp only [mBits, mEnumC, pSortX, mDNewT, mZipM, mDc, mLenSetL, mDGetT, mDGet2T, mDInT, mDPutT, mLockX, mLockEX, mKeysX, pLstX, pLenX, pMaxT, pSortT, str_to, str_ot, mPar3, mLockV, mLockE, mItemsC, mKeysC, mDGet2, pIsN, isNonP, pRepLM, mTruD, dkOfP, pPopAt, pIndex, mLstRgM, mTruth, pReprA, pLenD, pLstD, mDNew, pRepL, mLenSetN, mDIn, mSortSet, mSortSetL, mRevT, mForC, mSeqC, mLcC, pAbs, pMax2, pMin2, pInt1, mDGet, mDPut, mBM, mBM0, pPop, pAppend, pExtend, pSetL, mSub, mDisp, mPs, mPs0, mRevL, mRevLM, pLstOfM, mTupRg, mRg1, mRg2, pPlusM, lstItems, dictOfP, keyP, keysP, val_left, val_mixed, val_draws, put_draws, mLc, mLcM, mLc2, mFor, mSeqI, mRng1, mRng2, mZip, mEnum, mSl, mNoPart, mPart, mSeq, mAsg, mAsg2, mCB, mCons, mNil, mVar, mC, mOp, mUn, pU, mTup, mLst, mRet, mRetN, mLstM, getl, setl, mName, mCall, mCallK, mIf, mIfS, mTest, mAnd, mOr, mNot, mYes, mAndV, mOrV, mNotV, mNext, mNever, mBreak, mCont, mDrop, mChain, mPar, mGTup, mGCons, mGNil, pGcd, pI, pI0, pIx, pTimes, pPlus, pEq, pNe, pLen, pSum, pMaxS, pAll, pAny, pTupOf, pLstOf, pIn, pIsB, pIsi, items_tup, items_lst, items_kl, items_mr, items_tab, items_lot, items_fr, decide_true, decide_false, eqP_int, eqP_bl, eqP_str, eqP_tup2, kit_tt, kit_ii, kit_ib, tyP, mEnd, wipeP, List.map_cons, List.map_nil, List.getElem?_cons_zero, List.getElem?_cons_succ, List.set_cons_zero, List.set_cons_succ, atI_zero, atI_one, if_true, if_false, ite_true, ite_false, Bool.false_eq_true, List.length_cons, List.length_nil, Bool.not_true, Bool.not_false, e1 μ hD, S__law_draw]
    refine ⟨trivial, _, _, _, rfl, hD, by omega, by omega, fun n μ' h0 h1 hD' => ?_⟩
    obtain ⟨i, rfl⟩ : ∃ i : Nat, n = (i : Int) := ⟨n.toNat, by omega⟩
    have hi : i < items.length := by omega
    simp only [e1 μ' hD', atI_some (List.getElem?_eq_getElem hi)]
    exact fin_keep (hQ _ (List.getElem_mem hi) _ hD')
abbrev N__law_fraction : List Str := ["_law_top", "_law_bottom", "_law_part"]
theorem sc__law_fraction : FnScope N__law_fraction ["_law_top", "_law_bottom"] (defScope s__law_fraction) := ⟨rfl, rfl, rfl, by decide +kernel, rfl, by decide +kernel, by decide +kernel⟩
theorem ok__law_fraction (B : Blt mg) (h__law_fraction : Own K mg "_law_fraction" s__law_fraction) (k__law_common : Ok P w K mg base 1 "_law_common" s__law_common ["_law_one", "_law_other"] S__law_common) : Ok P w K mg base 2 "_law_fraction" s__law_fraction ["_law_top", "_law_bottom"] S__law_fraction := by
  obtain ⟨f_s, fd_s, F_s, g_s⟩ := h__law_fraction
  obtain ⟨f__law_common, fd__law_common, F__law_common, g__law_common, b__law_common, G__law_common⟩ := k__law_common
  refine ⟨f_s, fd_s, F_s, g_s, F_s.binds (fun _ _ _ _ _ _ us hl => match us, hl with | [_, _], _ => rfl), FnG.of F_s sc__law_fraction (fun xs μ Q h => by first | exact h.1 | exact h.2.1 | (obtain ⟨⟩ := h)) fun cdv A outer s H hr hgd => ⟨_, _, (pss_cons (ps_if (pt_cmpR op_lt (pv 1) pe_int (nomark _))
 (pss_one (ps_par (i := 0) (j := 1) (by rfl) sc__law_fraction.nd rfl rfl (by decide) rfl rfl (pa_cons (pe_un un_neg (pv 0)) (pa_cons (pe_un un_neg (pv 1)) pa_nil)) (by rfl)))
 pss_nil)
 (pss_cons (ps_set (i := 2) sc__law_fraction.nd rfl (Or.inl rfl) (pe_callG (G__law_common.mono (by decide)) hr hgd (by rfl) g__law_common F__law_common.kp b__law_common (pa_cons (pv 0) (pa_cons (pv 1) pa_nil))))
 (pss_one (ps_ret (pe_tup (pa_cons (pe_op op_divX (pv 0) (pv 2)) (pa_cons (pe_op op_divX (pv 1) (pv 2)) pa_nil))))))), (by (try dsimp only [cxOf]); exact inferInstance), ?_⟩⟩
  intro xs μ Q hS
  obtain ⟨_, a, b, rfl, h0, hb, hQ⟩ := hS
  rw [show startP N__law_fraction [.int a, .int b] = [some (.int a), some (.int b), none] from rfl]
  simp only [mBits, mEnumC, pSortX, mDNewT, mZipM, mDc, mLenSetL, mDGetT, mDGet2T, mDInT, mDPutT, mLockX, mLockEX, mKeysX, pLstX, pLenX, pMaxT, pSortT, str_to, str_ot, mPar3, mLockV, mLockE, mItemsC, mKeysC, mDGet2, pIsN, isNonP, pRepLM, mTruD, dkOfP, pPopAt, pIndex, mLstRgM, mTruth, pReprA, pLenD, pLstD, mDNew, pRepL, mLenSetN, mDIn, mSortSet, mSortSetL, mRevT, mForC, mSeqC, mLcC, pAbs, pMax2, pMin2, pInt1, mDGet, mDPut, mBM, mBM0, pPop, pAppend, pExtend, pSetL, mSub, mDisp, mPs, mPs0, mRevL, mRevLM, pLstOfM, mTupRg, mRg1, mRg2, pPlusM, lstItems, dictOfP, keyP, keysP, val_left, val_mixed, val_draws, put_draws, mLc, mLcM, mLc2, mFor, mSeqI, mRng1, mRng2, mZip, mEnum, mSl, mNoPart, mPart, mSeq, mAsg, mAsg2, mCB, mCons, mNil, mVar, mC, mOp, mUn, pU, mTup, mLst, mRet, mRetN, mLstM, getl, setl, mName, mCall, mCallK, mIf, mIfS, mTest, mAnd, mOr, mNot, mYes, mAndV, mOrV, mNotV, mNext, mNever, mBreak, mCont, mDrop, mChain, mPar, mGTup, mGCons, mGNil, pGcd, pI, pI0, pIx, pTimes, pPlus, pEq, pNe, pLen, pSum, pMaxS, pAll, pAny, pTupOf, pLstOf, pIn, pIsB, pIsi, items_tup, items_lst, items_kl, items_mr, items_tab, items_lot, items_fr, decide_true, decide_false, eqP_int, eqP_bl, eqP_str, eqP_tup2, kit_tt, kit_ii, kit_ib, tyP, mEnd, wipeP, List.map_cons, List.map_nil, List.getElem?_cons_zero, List.getElem?_cons_succ, List.set_cons_zero, List.set_cons_succ, atI_zero, atI_one, if_true, if_false, ite_true, ite_false, Bool.false_eq_true, List.length_cons, List.length_nil, Bool.not_true, Bool.not_false, S__law_common]
  rw [decide_eq_false (by omega), if_neg (by decide)]
  have hd : ∀ c : Int, DivOk c ((Nat.gcd a.natAbs b.natAbs : Nat) : Int) := fun c => gcd_div (a := a) h0 hb
  refine ⟨trivial, _, _, rfl, hd a, hd b, by decide, ?_⟩
  obtain ⟨e2, e3⟩ := lowest_eq a b h0
  rw [e2, e3]
  exact fin_keep hQ
abbrev N_is_fraction : List Str := ["thing", "top", "bottom"]
theorem sc_is_fraction : FnScope N_is_fraction ["thing"] (defScope s_is_fraction) := ⟨rfl, rfl, rfl, by decide +kernel, rfl, by decide +kernel, by decide +kernel⟩
theorem ok_is_fraction (B : Blt mg) (h_is_fraction : Own K mg "is_fraction" s_is_fraction) (k_is_integer : Ok P w K mg base 1 "is_integer" s_is_integer ["thing"] S_is_integer) (i_gcd : mg "gcd" = some (.builtin "math.gcd")) : Ok P w K mg base 2 "is_fraction" s_is_fraction ["thing"] S_is_fraction := by
  obtain ⟨f_s, fd_s, F_s, g_s⟩ := h_is_fraction
  obtain ⟨f_is_integer, fd_is_integer, F_is_integer, g_is_integer, b_is_integer, G_is_integer⟩ := k_is_integer
  refine ⟨f_s, fd_s, F_s, g_s, F_s.binds (fun _ _ _ _ _ _ us hl => match us, hl with | [_], _ => rfl), FnG.of F_s sc_is_fraction (fun xs μ Q h => by first | exact h.1 | exact h.2.1 | (obtain ⟨⟩ := h)) fun cdv A outer s H hr hgd => ⟨_, _, (pss_cons (ps_if (PW.pt (pw_or (pt_not (pt_val (pe_callB call_isi (by rfl) (B "isinstance" (by decide)) (by decide +kernel) (pa_cons (pv 0) (pa_cons (pe_bltn (v := .ty "tuple") (u := .type "tuple") (by rfl) (B "tuple" (by decide)) (by decide +kernel) rfl) pa_nil))))) (pw_or1 (pt_cmpR (op_neX hr.units) (pe_callB cb_len (by rfl) (B "len" (by decide)) (by decide +kernel) (pa_cons (pv 0) pa_nil)) pe_int (nomark _)))))
 (pss_one (ps_ret pe_bl))
 pss_nil)
 (pss_cons (ps_asg (pv 0) (pg_tup (n := 2) rfl (pgs_cons (pg_name (i := 1) sc_is_fraction.nd rfl (Or.inl rfl)) (pgs_cons (pg_name (i := 2) sc_is_fraction.nd rfl (Or.inl rfl)) pgs_nil))))
 (pss_one (ps_ret (pe_and (pe_callG (G_is_integer.mono (by decide)) hr hgd (by rfl) g_is_integer F_is_integer.kp b_is_integer (pa_cons (pv 1) pa_nil)) (pe_and (pe_callG (G_is_integer.mono (by decide)) hr hgd (by rfl) g_is_integer F_is_integer.kp b_is_integer (pa_cons (pv 2) pa_nil)) (pe_and (pe_cmpR op_gt (pv 2) pe_int (nomark _)) (pe_one (pe_cmpR (op_eqX hr.units) (pe_callBfun cr_gcd (by rfl) i_gcd (pa_cons (pv 1) (pa_cons (pv 2) pa_nil))) pe_int (nomark _)))))))))), (by (try dsimp only [cxOf]); exact inferInstance), ?_⟩⟩
  intro xs μ Q hS
  obtain ⟨_, q, rfl, hQ⟩ := hS
  rw [show startP N_is_fraction [frP q] = [some (frP q), none, none] from rfl]
  have hd := den_pos q
  simp only [mBits, mEnumC, pSortX, mDNewT, mZipM, mDc, mLenSetL, mDGetT, mDGet2T, mDInT, mDPutT, mLockX, mLockEX, mKeysX, pLstX, pLenX, pMaxT, pSortT, str_to, str_ot, mPar3, mLockV, mLockE, mItemsC, mKeysC, mDGet2, pIsN, isNonP, pRepLM, mTruD, dkOfP, pPopAt, pIndex, mLstRgM, mTruth, pReprA, pLenD, pLstD, mDNew, pRepL, mLenSetN, mDIn, mSortSet, mSortSetL, mRevT, mForC, mSeqC, mLcC, pAbs, pMax2, pMin2, pInt1, mDGet, mDPut, mBM, mBM0, pPop, pAppend, pExtend, pSetL, mSub, mDisp, mPs, mPs0, mRevL, mRevLM, pLstOfM, mTupRg, mRg1, mRg2, pPlusM, lstItems, dictOfP, keyP, keysP, val_left, val_mixed, val_draws, put_draws, mLc, mLcM, mLc2, mFor, mSeqI, mRng1, mRng2, mZip, mEnum, mSl, mNoPart, mPart, mSeq, mAsg, mAsg2, mCB, mCons, mNil, mVar, mC, mOp, mUn, pU, mTup, mLst, mRet, mRetN, mLstM, getl, setl, mName, mCall, mCallK, mIf, mIfS, mTest, mAnd, mOr, mNot, mYes, mAndV, mOrV, mNotV, mNext, mNever, mBreak, mCont, mDrop, mChain, mPar, mGTup, mGCons, mGNil, pGcd, pI, pI0, pIx, pTimes, pPlus, pEq, pNe, pLen, pSum, pMaxS, pAll, pAny, pTupOf, pLstOf, pIn, pIsB, pIsi, items_tup, items_lst, items_kl, items_mr, items_tab, items_lot, items_fr, decide_true, decide_false, eqP_int, eqP_bl, eqP_str, eqP_tup2, kit_tt, kit_ii, kit_ib, tyP, mEnd, wipeP, List.map_cons, List.map_nil, List.getElem?_cons_zero, List.getElem?_cons_succ, List.set_cons_zero, List.set_cons_succ, atI_zero, atI_one, if_true, if_false, ite_true, ite_false, Bool.false_eq_true, List.length_cons, List.length_nil, Bool.not_true, Bool.not_false, frP, S_is_integer, gcd_one]
  have e2 : decide (0 < (q.den : Int)) = true := by simpa using hd
  rw [e2]
  exact ⟨trivial, trivial, _, rfl, trivial, _, rfl, fin_keep hQ⟩
abbrev N_added : List Str := ["one", "other"]
theorem sc_added : FnScope N_added ["one", "other"] (defScope s_added) := ⟨rfl, rfl, rfl, by decide +kernel, rfl, by decide +kernel, by decide +kernel⟩
theorem ok_added (B : Blt mg) (h_added : Own K mg "added" s_added) (k_lowest : Ok P w K mg base 1 "lowest" s_lowest ["top", "bottom"] S_lowest) : Ok P w K mg base 2 "added" s_added ["one", "other"] S_added := by
  obtain ⟨f_s, fd_s, F_s, g_s⟩ := h_added
  obtain ⟨f_lowest, fd_lowest, F_lowest, g_lowest, b_lowest, G_lowest⟩ := k_lowest
  refine ⟨f_s, fd_s, F_s, g_s, F_s.binds (fun _ _ _ _ _ _ us hl => match us, hl with | [_, _], _ => rfl), FnG.of F_s sc_added (fun xs μ Q h => by first | exact h.1 | exact h.2.1 | (obtain ⟨⟩ := h)) fun cdv A outer s H hr hgd => ⟨_, _, (pss_one (ps_ret (pe_callG (G_lowest.mono (by decide)) hr hgd (by rfl) g_lowest F_lowest.kp b_lowest (pa_cons (pe_op op_plus (pe_op op_times (pe_ix ix_seq (pv 0) pe_int (fun _ _ => rfl)) (pe_ix ix_seq (pv 1) pe_int (fun _ _ => rfl))) (pe_op op_times (pe_ix ix_seq (pv 1) pe_int (fun _ _ => rfl)) (pe_ix ix_seq (pv 0) pe_int (fun _ _ => rfl)))) (pa_cons (pe_op op_times (pe_ix ix_seq (pv 0) pe_int (fun _ _ => rfl)) (pe_ix ix_seq (pv 1) pe_int (fun _ _ => rfl))) pa_nil))))), (by (try dsimp only [cxOf]); exact inferInstance), ?_⟩⟩
  intro xs μ Q hS
  obtain ⟨_, p, q, rfl, hp, hq, hQ⟩ := hS
  rw [show startP N_added [frP p, frP q] = [some (frP p), some (frP q)] from rfl]
  obtain ⟨m1, m2, m3, m4⟩ := fr_mul hp hq
  obtain ⟨n1, n2, n3, n4⟩ := fr_mul hq hp
  simp only [mBits, mEnumC, pSortX, mDNewT, mZipM, mDc, mLenSetL, mDGetT, mDGet2T, mDInT, mDPutT, mLockX, mLockEX, mKeysX, pLstX, pLenX, pMaxT, pSortT, str_to, str_ot, mPar3, mLockV, mLockE, mItemsC, mKeysC, mDGet2, pIsN, isNonP, pRepLM, mTruD, dkOfP, pPopAt, pIndex, mLstRgM, mTruth, pReprA, pLenD, pLstD, mDNew, pRepL, mLenSetN, mDIn, mSortSet, mSortSetL, mRevT, mForC, mSeqC, mLcC, pAbs, pMax2, pMin2, pInt1, mDGet, mDPut, mBM, mBM0, pPop, pAppend, pExtend, pSetL, mSub, mDisp, mPs, mPs0, mRevL, mRevLM, pLstOfM, mTupRg, mRg1, mRg2, pPlusM, lstItems, dictOfP, keyP, keysP, val_left, val_mixed, val_draws, put_draws, mLc, mLcM, mLc2, mFor, mSeqI, mRng1, mRng2, mZip, mEnum, mSl, mNoPart, mPart, mSeq, mAsg, mAsg2, mCB, mCons, mNil, mVar, mC, mOp, mUn, pU, mTup, mLst, mRet, mRetN, mLstM, getl, setl, mName, mCall, mCallK, mIf, mIfS, mTest, mAnd, mOr, mNot, mYes, mAndV, mOrV, mNotV, mNext, mNever, mBreak, mCont, mDrop, mChain, mPar, mGTup, mGCons, mGNil, pGcd, pI, pI0, pIx, pTimes, pPlus, pEq, pNe, pLen, pSum, pMaxS, pAll, pAny, pTupOf, pLstOf, pIn, pIsB, pIsi, items_tup, items_lst, items_kl, items_mr, items_tab, items_lot, items_fr, decide_true, decide_false, eqP_int, eqP_bl, eqP_str, eqP_tup2, kit_tt, kit_ii, kit_ib, tyP, mEnd, wipeP, List.map_cons, List.map_nil, List.getElem?_cons_zero, List.getElem?_cons_succ, List.set_cons_zero, List.set_cons_succ, atI_zero, atI_one, if_true, if_false, ite_true, ite_false, Bool.false_eq_true, List.length_cons, List.length_nil, Bool.not_true, Bool.not_false, frP, S_lowest]
  refine ⟨m2, n2, m4, trivial, _, _, rfl, Int.mul_pos (den_pos p) (den_pos q), ?_, ?_⟩
  · exact Nat.lt_of_lt_of_le (natAbs_mul_lt (x := (p.den : Int)) (y := (q.den : Int)) (by simpa using hp.2) (by simpa using hq.2)) (Nat.pow_le_pow_right (by decide) (by decide))
  · rw [← add_eq]
    exact fin_keep hQ
abbrev N_is_number : List Str := ["thing"]
theorem sc_is_number : FnScope N_is_number ["thing"] (defScope s_is_number) := ⟨rfl, rfl, rfl, by decide +kernel, rfl, by decide +kernel, by decide +kernel⟩
theorem ok_is_number (B : Blt mg) (h_is_number : Own K mg "is_number" s_is_number) (k_is_integer : Ok P w K mg base 1 "is_integer" s_is_integer ["thing"] S_is_integer) : Ok P w K mg base 2 "is_number" s_is_number ["thing"] S_is_number := by
  obtain ⟨f_s, fd_s, F_s, g_s⟩ := h_is_number
  obtain ⟨f_is_integer, fd_is_integer, F_is_integer, g_is_integer, b_is_integer, G_is_integer⟩ := k_is_integer
  refine ⟨f_s, fd_s, F_s, g_s, F_s.binds (fun _ _ _ _ _ _ us hl => match us, hl with | [_], _ => rfl), FnG.of F_s sc_is_number (fun xs μ Q h => by first | exact h.1 | exact h.2.1 | (obtain ⟨⟩ := h)) fun cdv A outer s H hr hgd => ⟨_, _, (pss_one (ps_ret (pe_and (pe_callG (G_is_integer.mono (by decide)) hr hgd (by rfl) g_is_integer F_is_integer.kp b_is_integer (pa_cons (pv 0) pa_nil)) (pe_one (pe_cmpR op_ge (pv 0) pe_int (nomark _)))))), (by (try dsimp only [cxOf]); exact inferInstance), ?_⟩⟩
  intro xs μ Q hS
  obtain ⟨_, i, rfl, hQ⟩ := hS
  rw [show startP N_is_number [.int i] = [some (.int i)] from rfl]
  simp only [mBits, mEnumC, pSortX, mDNewT, mZipM, mDc, mLenSetL, mDGetT, mDGet2T, mDInT, mDPutT, mLockX, mLockEX, mKeysX, pLstX, pLenX, pMaxT, pSortT, str_to, str_ot, mPar3, mLockV, mLockE, mItemsC, mKeysC, mDGet2, pIsN, isNonP, pRepLM, mTruD, dkOfP, pPopAt, pIndex, mLstRgM, mTruth, pReprA, pLenD, pLstD, mDNew, pRepL, mLenSetN, mDIn, mSortSet, mSortSetL, mRevT, mForC, mSeqC, mLcC, pAbs, pMax2, pMin2, pInt1, mDGet, mDPut, mBM, mBM0, pPop, pAppend, pExtend, pSetL, mSub, mDisp, mPs, mPs0, mRevL, mRevLM, pLstOfM, mTupRg, mRg1, mRg2, pPlusM, lstItems, dictOfP, keyP, keysP, val_left, val_mixed, val_draws, put_draws, mLc, mLcM, mLc2, mFor, mSeqI, mRng1, mRng2, mZip, mEnum, mSl, mNoPart, mPart, mSeq, mAsg, mAsg2, mCB, mCons, mNil, mVar, mC, mOp, mUn, pU, mTup, mLst, mRet, mRetN, mLstM, getl, setl, mName, mCall, mCallK, mIf, mIfS, mTest, mAnd, mOr, mNot, mYes, mAndV, mOrV, mNotV, mNext, mNever, mBreak, mCont, mDrop, mChain, mPar, mGTup, mGCons, mGNil, pGcd, pI, pI0, pIx, pTimes, pPlus, pEq, pNe, pLen, pSum, pMaxS, pAll, pAny, pTupOf, pLstOf, pIn, pIsB, pIsi, items_tup, items_lst, items_kl, items_mr, items_tab, items_lot, items_fr, decide_true, decide_false, eqP_int, eqP_bl, eqP_str, eqP_tup2, kit_tt, kit_ii, kit_ib, tyP, mEnd, wipeP, List.map_cons, List.map_nil, List.getElem?_cons_zero, List.getElem?_cons_succ, List.set_cons_zero, List.set_cons_succ, atI_zero, atI_one, if_true, if_false, ite_true, ite_false, Bool.false_eq_true, List.length_cons, List.length_nil, Bool.not_true, Bool.not_false, S_is_integer]
  exact ⟨trivial, i, rfl, fin_keep hQ⟩
abbrev N_is_within_bits : List Str := ["table", "t", "_", "bottom"]
theorem sc_is_within_bits : FnScope N_is_within_bits ["table", "t"] (defScope s_is_within_bits) := ⟨rfl, rfl, rfl, by decide +kernel, rfl, by decide +kernel, by decide +kernel⟩
theorem ok_is_within_bits (B : Blt mg) (h_is_within_bits : Own K mg "is_within_bits" s_is_within_bits) (k_is_power_of_two : Ok P w K mg base 1 "is_power_of_two" s_is_power_of_two ["number"] S_is_power_of_two) : Ok P w K mg base 2 "is_within_bits" s_is_within_bits ["table", "t"] S_is_within_bits := by
  obtain ⟨f_s, fd_s, F_s, g_s⟩ := h_is_within_bits
  obtain ⟨f_is_power_of_two, fd_is_power_of_two, F_is_power_of_two, g_is_power_of_two, b_is_power_of_two, G_is_power_of_two⟩ := k_is_power_of_two
  refine ⟨f_s, fd_s, F_s, g_s, F_s.binds (fun _ _ _ _ _ _ us hl => match us, hl with | [_, _], _ => rfl), FnG.of F_s sc_is_within_bits (fun xs μ Q h => by first | exact h.1 | exact h.2.1 | (obtain ⟨⟩ := h)) fun cdv A outer s H hr hgd => ⟨_, _, (pss_one (ps_ret (pe_callB (cr_all rfl) (by rfl) (B "all" (by decide)) (by decide +kernel) (pa_cons (pe_lc (own := [("_", 2), ("bottom", 3)]) (by rfl) sc_is_within_bits.nd (pi_seq (pv 0)) (blkOk_by (own := [("_", 2), ("bottom", 3)]) (N := N_is_within_bits) (sc := defScope s_is_within_bits) (by decide +kernel)) (fun _ _ _ _ _ => (pgk_tup K 2 rfl rfl (pgs_cons (pg_name (i := 2) sc_is_within_bits.nd rfl (Or.inl rfl)) (pgs_cons (pg_name (i := 3) sc_is_within_bits.nd rfl (Or.inl rfl)) pgs_nil)) rfl rfl)) (fun _ _ _ _ _ => pts_nil) (fun _ _ _ _ _ => (pe_and (pek_call K rfl (G_is_power_of_two.mono (by decide)) hr hgd (by rfl) g_is_power_of_two F_is_power_of_two.kp b_is_power_of_two (pa_cons (pv 3) pa_nil)) (pe_one (pe_cmpR op_le (pe_bits (pv 3)) (pe_op (opk_plus K rfl) (pv 1) pe_int) (nomark _)))))) pa_nil)))), (by (try dsimp only [cxOf]); exact inferInstance), ?_⟩⟩
  intro xs μ Q hS
  obtain ⟨_, qs, t, rfl, hl, hQ⟩ := hS
  rw [show startP N_is_within_bits [tabP qs, .int t] = [some (tabP qs), some (.int t), none, none] from rfl]
  simp only [mBits, mEnumC, pSortX, mDNewT, mZipM, mDc, mLenSetL, mDGetT, mDGet2T, mDInT, mDPutT, mLockX, mLockEX, mKeysX, pLstX, pLenX, pMaxT, pSortT, str_to, str_ot, mPar3, mLockV, mLockE, mItemsC, mKeysC, mDGet2, pIsN, isNonP, pRepLM, mTruD, dkOfP, pPopAt, pIndex, mLstRgM, mTruth, pReprA, pLenD, pLstD, mDNew, pRepL, mLenSetN, mDIn, mSortSet, mSortSetL, mRevT, mForC, mSeqC, mLcC, pAbs, pMax2, pMin2, pInt1, mDGet, mDPut, mBM, mBM0, pPop, pAppend, pExtend, pSetL, mSub, mDisp, mPs, mPs0, mRevL, mRevLM, pLstOfM, mTupRg, mRg1, mRg2, pPlusM, lstItems, dictOfP, keyP, keysP, val_left, val_mixed, val_draws, put_draws, mLc, mLcM, mLc2, mFor, mSeqI, mRng1, mRng2, mZip, mEnum, mSl, mNoPart, mPart, mSeq, mAsg, mAsg2, mCB, mCons, mNil, mVar, mC, mOp, mUn, pU, mTup, mLst, mRet, mRetN, mLstM, getl, setl, mName, mCall, mCallK, mIf, mIfS, mTest, mAnd, mOr, mNot, mYes, mAndV, mOrV, mNotV, mNext, mNever, mBreak, mCont, mDrop, mChain, mPar, mGTup, mGCons, mGNil, pGcd, pI, pI0, pIx, pTimes, pPlus, pEq, pNe, pLen, pSum, pMaxS, pAll, pAny, pTupOf, pLstOf, pIn, pIsB, pIsi, items_tup, items_lst, items_kl, items_mr, items_tab, items_lot, items_fr, decide_true, decide_false, eqP_int, eqP_bl, eqP_str, eqP_tup2, kit_tt, kit_ii, kit_ib, tyP, mEnd, wipeP, List.map_cons, List.map_nil, List.getElem?_cons_zero, List.getElem?_cons_succ, List.set_cons_zero, List.set_cons_succ, atI_zero, atI_one, if_true, if_false, ite_true, ite_false, Bool.false_eq_true, List.length_cons, List.length_nil, Bool.not_true, Bool.not_false, tabP, S_is_power_of_two]
  refine ⟨by decide, by rw [List.length_map]; unfold lim; omega, lc_map (enc := frP) (out := fun q => .bl (decide (q.den ∣ 2 ^ t))) (fun q hq kk hk => ?_) ?_⟩
  · simp only [mBits, mEnumC, pSortX, mDNewT, mZipM, mDc, mLenSetL, mDGetT, mDGet2T, mDInT, mDPutT, mLockX, mLockEX, mKeysX, pLstX, pLenX, pMaxT, pSortT, str_to, str_ot, mPar3, mLockV, mLockE, mItemsC, mKeysC, mDGet2, pIsN, isNonP, pRepLM, mTruD, dkOfP, pPopAt, pIndex, mLstRgM, mTruth, pReprA, pLenD, pLstD, mDNew, pRepL, mLenSetN, mDIn, mSortSet, mSortSetL, mRevT, mForC, mSeqC, mLcC, pAbs, pMax2, pMin2, pInt1, mDGet, mDPut, mBM, mBM0, pPop, pAppend, pExtend, pSetL, mSub, mDisp, mPs, mPs0, mRevL, mRevLM, pLstOfM, mTupRg, mRg1, mRg2, pPlusM, lstItems, dictOfP, keyP, keysP, val_left, val_mixed, val_draws, put_draws, mLc, mLcM, mLc2, mFor, mSeqI, mRng1, mRng2, mZip, mEnum, mSl, mNoPart, mPart, mSeq, mAsg, mAsg2, mCB, mCons, mNil, mVar, mC, mOp, mUn, pU, mTup, mLst, mRet, mRetN, mLstM, getl, setl, mName, mCall, mCallK, mIf, mIfS, mTest, mAnd, mOr, mNot, mYes, mAndV, mOrV, mNotV, mNext, mNever, mBreak, mCont, mDrop, mChain, mPar, mGTup, mGCons, mGNil, pGcd, pI, pI0, pIx, pTimes, pPlus, pEq, pNe, pLen, pSum, pMaxS, pAll, pAny, pTupOf, pLstOf, pIn, pIsB, pIsi, items_tup, items_lst, items_kl, items_mr, items_tab, items_lot, items_fr, decide_true, decide_false, eqP_int, eqP_bl, eqP_str, eqP_tup2, kit_tt, kit_ii, kit_ib, tyP, mEnd, wipeP, List.map_cons, List.map_nil, List.getElem?_cons_zero, List.getElem?_cons_succ, List.set_cons_zero, List.set_cons_succ, atI_zero, atI_one, if_true, if_false, ite_true, ite_false, Bool.false_eq_true, List.length_cons, List.length_nil, Bool.not_true, Bool.not_false, frP, S_is_power_of_two]
    refine ⟨trivial, trivial, q.den, rfl, q.den_pos, ?_⟩
    rw [← within_bits q.den_pos] at hk
    cases c : pw2 q.den with
    | true =>
      rw [c, Bool.true_and] at hk
      rw [if_pos rfl]
      exact hk
    | false =>
      rw [c, Bool.false_and] at hk
      rw [if_neg (by decide)]
      exact hk
  have em : (qs.map fun q => PV.bl (decide (q.den ∣ 2 ^ t))) = (qs.map fun q => decide (q.den ∣ 2 ^ t)).map PV.bl := by rw [List.map_map]; rfl
  rw [List.nil_append, em, boolsP_map]
  simp only
  have eb : ((qs.map fun q => decide (q.den ∣ 2 ^ t)).all id) = decide (∀ q ∈ qs, q.den ∣ 2 ^ t) := by
    rw [List.all_map]
    cases c : qs.all (id ∘ fun q => decide (q.den ∣ 2 ^ t)) with
    | true =>
      rw [List.all_eq_true] at c
      exact (decide_eq_true fun q hq => of_decide_eq_true (c q hq)).symm
    | false =>
      refine (decide_eq_false fun z => ?_).symm
      have : qs.all (id ∘ fun q => decide (q.den ∣ 2 ^ t)) = true := List.all_eq_true.mpr fun q hq => decide_eq_true (z q hq)
      rw [c] at this
      cases this
  rw [eb]
  exact fin_keep hQ
abbrev N__law_is_fraction : List Str := ["_law_thing"]
theorem sc__law_is_fraction : FnScope N__law_is_fraction ["_law_thing"] (defScope s__law_is_fraction) := ⟨rfl, rfl, rfl, by decide +kernel, rfl, by decide +kernel, by decide +kernel⟩
theorem ok__law_is_fraction (B : Blt mg) (h__law_is_fraction : Own K mg "_law_is_fraction" s__law_is_fraction) (k__law_is_integer : Ok P w K mg base 1 "_law_is_integer" s__law_is_integer ["_law_thing"] S__law_is_integer) (k__law_common : Ok P w K mg base 1 "_law_common" s__law_common ["_law_one", "_law_other"] S__law_common) : Ok P w K mg base 2 "_law_is_fraction" s__law_is_fraction ["_law_thing"] S__law_is_fraction := by
  obtain ⟨f_s, fd_s, F_s, g_s⟩ := h__law_is_fraction
  obtain ⟨f__law_is_integer, fd__law_is_integer, F__law_is_integer, g__law_is_integer, b__law_is_integer, G__law_is_integer⟩ := k__law_is_integer
  obtain ⟨f__law_common, fd__law_common, F__law_common, g__law_common, b__law_common, G__law_common⟩ := k__law_common
  refine ⟨f_s, fd_s, F_s, g_s, F_s.binds (fun _ _ _ _ _ _ us hl => match us, hl with | [_], _ => rfl), FnG.of F_s sc__law_is_fraction (fun xs μ Q h => by first | exact h.1 | exact h.2.1 | (obtain ⟨⟩ := h)) fun cdv A outer s H hr hgd => ⟨_, _, (pss_cons (ps_if (PW.pt (pw_or (pt_not (pt_val (pe_callB call_isi (by rfl) (B "isinstance" (by decide)) (by decide +kernel) (pa_cons (pv 0) (pa_cons (pe_bltn (v := .ty "tuple") (u := .type "tuple") (by rfl) (B "tuple" (by decide)) (by decide +kernel) rfl) pa_nil))))) (pw_or (pt_cmpR (op_neX hr.units) (pe_callB cb_len (by rfl) (B "len" (by decide)) (by decide +kernel) (pa_cons (pv 0) pa_nil)) pe_int (nomark _)) (pw_or (pt_not (pt_val (pe_callG (G__law_is_integer.mono (by decide)) hr hgd (by rfl) g__law_is_integer F__law_is_integer.kp b__law_is_integer (pa_cons (pe_ix ix_seq (pv 0) pe_int (fun _ _ => rfl)) pa_nil)))) (pw_or1 (pt_not (pt_val (pe_callG (G__law_is_integer.mono (by decide)) hr hgd (by rfl) g__law_is_integer F__law_is_integer.kp b__law_is_integer (pa_cons (pe_ix ix_seq (pv 0) pe_int (fun _ _ => rfl)) pa_nil)))))))))
 (pss_one (ps_ret pe_bl))
 pss_nil)
 (pss_one (ps_ret (pe_and (pe_cmpR op_gt (pe_ix ix_seq (pv 0) pe_int (fun _ _ => rfl)) pe_int (nomark _)) (pe_one (pe_cmpR (op_eqX hr.units) (pe_callG (G__law_common.mono (by decide)) hr hgd (by rfl) g__law_common F__law_common.kp b__law_common (pa_cons (pe_ix ix_seq (pv 0) pe_int (fun _ _ => rfl)) (pa_cons (pe_ix ix_seq (pv 0) pe_int (fun _ _ => rfl)) pa_nil))) pe_int (nomark _))))))), (by (try dsimp only [cxOf]); exact inferInstance), ?_⟩⟩
  intro xs μ Q hS
  obtain ⟨_, q, rfl, hQ⟩ := hS
  rw [show startP N__law_is_fraction [frP q] = [some (frP q)] from rfl]
  refine stm_of fun R hR => ?_
  simp only [mBits, mEnumC, pSortX, mDNewT, mZipM, mDc, mLenSetL, mDGetT, mDGet2T, mDInT, mDPutT, mLockX, mLockEX, mKeysX, pLstX, pLenX, pMaxT, pSortT, str_to, str_ot, mPar3, mLockV, mLockE, mItemsC, mKeysC, mDGet2, pIsN, isNonP, pRepLM, mTruD, dkOfP, pPopAt, pIndex, mLstRgM, mTruth, pReprA, pLenD, pLstD, mDNew, pRepL, mLenSetN, mDIn, mSortSet, mSortSetL, mRevT, mForC, mSeqC, mLcC, pAbs, pMax2, pMin2, pInt1, mDGet, mDPut, mBM, mBM0, pPop, pAppend, pExtend, pSetL, mSub, mDisp, mPs, mPs0, mRevL, mRevLM, pLstOfM, mTupRg, mRg1, mRg2, pPlusM, lstItems, dictOfP, keyP, keysP, val_left, val_mixed, val_draws, put_draws, mLc, mLcM, mLc2, mFor, mSeqI, mRng1, mRng2, mZip, mEnum, mSl, mNoPart, mPart, mSeq, mAsg, mAsg2, mCB, mCons, mNil, mVar, mC, mOp, mUn, pU, mTup, mLst, mRet, mRetN, mLstM, getl, setl, mName, mCall, mCallK, mIf, mIfS, mTest, mAnd, mOr, mNot, mYes, mAndV, mOrV, mNotV, mNext, mNever, mBreak, mCont, mDrop, mChain, mPar, mGTup, mGCons, mGNil, pGcd, pI, pI0, pIx, pTimes, pPlus, pEq, pNe, pLen, pSum, pMaxS, pAll, pAny, pTupOf, pLstOf, pIn, pIsB, pIsi, items_tup, items_lst, items_kl, items_mr, items_tab, items_lot, items_fr, decide_true, decide_false, eqP_int, eqP_bl, eqP_str, eqP_tup2, kit_tt, kit_ii, kit_ib, tyP, mEnd, wipeP, List.map_cons, List.map_nil, List.getElem?_cons_zero, List.getElem?_cons_succ, List.set_cons_zero, List.set_cons_succ, atI_zero, atI_one, if_true, if_false, ite_true, ite_false, Bool.false_eq_true, List.length_cons, List.length_nil, Bool.not_true, Bool.not_false, frP, S__law_is_integer]
  subst hR
  simp only [mBits, mEnumC, pSortX, mDNewT, mZipM, mDc, mLenSetL, mDGetT, mDGet2T, mDInT, mDPutT, mLockX, mLockEX, mKeysX, pLstX, pLenX, pMaxT, pSortT, str_to, str_ot, mPar3, mLockV, mLockE, mItemsC, mKeysC, mDGet2, pIsN, isNonP, pRepLM, mTruD, dkOfP, pPopAt, pIndex, mLstRgM, mTruth, pReprA, pLenD, pLstD, mDNew, pRepL, mLenSetN, mDIn, mSortSet, mSortSetL, mRevT, mForC, mSeqC, mLcC, pAbs, pMax2, pMin2, pInt1, mDGet, mDPut, mBM, mBM0, pPop, pAppend, pExtend, pSetL, mSub, mDisp, mPs, mPs0, mRevL, mRevLM, pLstOfM, mTupRg, mRg1, mRg2, pPlusM, lstItems, dictOfP, keyP, keysP, val_left, val_mixed, val_draws, put_draws, mLc, mLcM, mLc2, mFor, mSeqI, mRng1, mRng2, mZip, mEnum, mSl, mNoPart, mPart, mSeq, mAsg, mAsg2, mCB, mCons, mNil, mVar, mC, mOp, mUn, pU, mTup, mLst, mRet, mRetN, mLstM, getl, setl, mName, mCall, mCallK, mIf, mIfS, mTest, mAnd, mOr, mNot, mYes, mAndV, mOrV, mNotV, mNext, mNever, mBreak, mCont, mDrop, mChain, mPar, mGTup, mGCons, mGNil, pGcd, pI, pI0, pIx, pTimes, pPlus, pEq, pNe, pLen, pSum, pMaxS, pAll, pAny, pTupOf, pLstOf, pIn, pIsB, pIsi, items_tup, items_lst, items_kl, items_mr, items_tab, items_lot, items_fr, decide_true, decide_false, eqP_int, eqP_bl, eqP_str, eqP_tup2, kit_tt, kit_ii, kit_ib, tyP, mEnd, wipeP, List.map_cons, List.map_nil, List.getElem?_cons_zero, List.getElem?_cons_succ, List.set_cons_zero, List.set_cons_succ, atI_zero, atI_one, if_true, if_false, ite_true, ite_false, Bool.false_eq_true, List.length_cons, List.length_nil, Bool.not_true, Bool.not_false, S__law_common]
  rw [decide_eq_true (by decide), if_neg (by decide)]
  have hd := q.den_pos
  refine ⟨trivial, _, rfl, trivial, _, rfl, ?_⟩
  rw [decide_eq_true (by omega), if_pos rfl]
  refine ⟨trivial, _, _, rfl, ?_⟩
  rw [gcd_one, decide_eq_true (by decide)]
  exact fin_keep hQ
abbrev N_divided : List Str := ["one", "other"]
theorem sc_divided : FnScope N_divided ["one", "other"] (defScope s_divided) := ⟨rfl, rfl, rfl, by decide +kernel, rfl, by decide +kernel, by decide +kernel⟩
theorem ok_divided (B : Blt mg) (h_divided : Own K mg "divided" s_divided) (k_lowest : Ok P w K mg base 1 "lowest" s_lowest ["top", "bottom"] S_lowest) : Ok P w K mg base 2 "divided" s_divided ["one", "other"] S_divided := by
  obtain ⟨f_s, fd_s, F_s, g_s⟩ := h_divided
  obtain ⟨f_lowest, fd_lowest, F_lowest, g_lowest, b_lowest, G_lowest⟩ := k_lowest
  refine ⟨f_s, fd_s, F_s, g_s, F_s.binds (fun _ _ _ _ _ _ us hl => match us, hl with | [_, _], _ => rfl), FnG.of F_s sc_divided (fun xs μ Q h => by first | exact h.1 | exact h.2.1 | (obtain ⟨⟩ := h)) fun cdv A outer s H hr hgd => ⟨_, _, (pss_one (ps_ret (pe_callG (G_lowest.mono (by decide)) hr hgd (by rfl) g_lowest F_lowest.kp b_lowest (pa_cons (pe_op op_times (pe_ix ix_seq (pv 0) pe_int (fun _ _ => rfl)) (pe_ix ix_seq (pv 1) pe_int (fun _ _ => rfl))) (pa_cons (pe_op op_times (pe_ix ix_seq (pv 0) pe_int (fun _ _ => rfl)) (pe_ix ix_seq (pv 1) pe_int (fun _ _ => rfl))) pa_nil))))), (by (try dsimp only [cxOf]); exact inferInstance), ?_⟩⟩
  intro xs μ Q hS
  obtain ⟨_, p, q, rfl, hp, hq, h0, hQ⟩ := hS
  rw [show startP N_divided [frP p, frP q] = [some (frP p), some (frP q)] from rfl]
  obtain ⟨m1, m2, m3, m4⟩ := fr_mul hp hq
  have hn : 0 < q.num := num_pos h0
  simp only [mBits, mEnumC, pSortX, mDNewT, mZipM, mDc, mLenSetL, mDGetT, mDGet2T, mDInT, mDPutT, mLockX, mLockEX, mKeysX, pLstX, pLenX, pMaxT, pSortT, str_to, str_ot, mPar3, mLockV, mLockE, mItemsC, mKeysC, mDGet2, pIsN, isNonP, pRepLM, mTruD, dkOfP, pPopAt, pIndex, mLstRgM, mTruth, pReprA, pLenD, pLstD, mDNew, pRepL, mLenSetN, mDIn, mSortSet, mSortSetL, mRevT, mForC, mSeqC, mLcC, pAbs, pMax2, pMin2, pInt1, mDGet, mDPut, mBM, mBM0, pPop, pAppend, pExtend, pSetL, mSub, mDisp, mPs, mPs0, mRevL, mRevLM, pLstOfM, mTupRg, mRg1, mRg2, pPlusM, lstItems, dictOfP, keyP, keysP, val_left, val_mixed, val_draws, put_draws, mLc, mLcM, mLc2, mFor, mSeqI, mRng1, mRng2, mZip, mEnum, mSl, mNoPart, mPart, mSeq, mAsg, mAsg2, mCB, mCons, mNil, mVar, mC, mOp, mUn, pU, mTup, mLst, mRet, mRetN, mLstM, getl, setl, mName, mCall, mCallK, mIf, mIfS, mTest, mAnd, mOr, mNot, mYes, mAndV, mOrV, mNotV, mNext, mNever, mBreak, mCont, mDrop, mChain, mPar, mGTup, mGCons, mGNil, pGcd, pI, pI0, pIx, pTimes, pPlus, pEq, pNe, pLen, pSum, pMaxS, pAll, pAny, pTupOf, pLstOf, pIn, pIsB, pIsi, items_tup, items_lst, items_kl, items_mr, items_tab, items_lot, items_fr, decide_true, decide_false, eqP_int, eqP_bl, eqP_str, eqP_tup2, kit_tt, kit_ii, kit_ib, tyP, mEnd, wipeP, List.map_cons, List.map_nil, List.getElem?_cons_zero, List.getElem?_cons_succ, List.set_cons_zero, List.set_cons_succ, atI_zero, atI_one, if_true, if_false, ite_true, ite_false, Bool.false_eq_true, List.length_cons, List.length_nil, Bool.not_true, Bool.not_false, frP, S_lowest]
  refine ⟨m2, m3, trivial, _, _, rfl, Int.mul_pos (den_pos p) hn, ?_, ?_⟩
  · exact Nat.lt_of_lt_of_le (natAbs_mul_lt (x := (p.den : Int)) (by simpa using hp.2) hq.1) (Nat.pow_le_pow_right (by decide) (by decide))
  · rw [← div_eq p q hn]
    exact fin_keep hQ
abbrev N_apart : List Str := ["one", "other"]
theorem sc_apart : FnScope N_apart ["one", "other"] (defScope s_apart) := ⟨rfl, rfl, rfl, by decide +kernel, rfl, by decide +kernel, by decide +kernel⟩
theorem ok_apart (B : Blt mg) (h_apart : Own K mg "apart" s_apart) (k_lowest : Ok P w K mg base 1 "lowest" s_lowest ["top", "bottom"] S_lowest) : Ok P w K mg base 2 "apart" s_apart ["one", "other"] S_apart := by
  obtain ⟨f_s, fd_s, F_s, g_s⟩ := h_apart
  obtain ⟨f_lowest, fd_lowest, F_lowest, g_lowest, b_lowest, G_lowest⟩ := k_lowest
  refine ⟨f_s, fd_s, F_s, g_s, F_s.binds (fun _ _ _ _ _ _ us hl => match us, hl with | [_, _], _ => rfl), FnG.of F_s sc_apart (fun xs μ Q h => by first | exact h.1 | exact h.2.1 | (obtain ⟨⟩ := h)) fun cdv A outer s H hr hgd => ⟨_, _, (pss_one (ps_ret (pe_callG (G_lowest.mono (by decide)) hr hgd (by rfl) g_lowest F_lowest.kp b_lowest (pa_cons (pe_callB cb_abs (by rfl) (B "abs" (by decide)) (by decide +kernel) (pa_cons (pe_op op_sub (pe_op op_times (pe_ix ix_seq (pv 0) pe_int (fun _ _ => rfl)) (pe_ix ix_seq (pv 1) pe_int (fun _ _ => rfl))) (pe_op op_times (pe_ix ix_seq (pv 1) pe_int (fun _ _ => rfl)) (pe_ix ix_seq (pv 0) pe_int (fun _ _ => rfl)))) pa_nil)) (pa_cons (pe_op op_times (pe_ix ix_seq (pv 0) pe_int (fun _ _ => rfl)) (pe_ix ix_seq (pv 1) pe_int (fun _ _ => rfl))) pa_nil))))), (by (try dsimp only [cxOf]); exact inferInstance), ?_⟩⟩
  intro xs μ Q hS
  obtain ⟨_, p, q, rfl, hp, hq, hQ⟩ := hS
  rw [show startP N_apart [frP p, frP q] = [some (frP p), some (frP q)] from rfl]
  obtain ⟨m1, m2, m3, m4⟩ := fr_mul hp hq
  obtain ⟨n1, n2, n3, n4⟩ := fr_mul hq hp
  have hd := Int.mul_pos (den_pos p) (den_pos q)
  simp only [mBits, mEnumC, pSortX, mDNewT, mZipM, mDc, mLenSetL, mDGetT, mDGet2T, mDInT, mDPutT, mLockX, mLockEX, mKeysX, pLstX, pLenX, pMaxT, pSortT, str_to, str_ot, mPar3, mLockV, mLockE, mItemsC, mKeysC, mDGet2, pIsN, isNonP, pRepLM, mTruD, dkOfP, pPopAt, pIndex, mLstRgM, mTruth, pReprA, pLenD, pLstD, mDNew, pRepL, mLenSetN, mDIn, mSortSet, mSortSetL, mRevT, mForC, mSeqC, mLcC, pAbs, pMax2, pMin2, pInt1, mDGet, mDPut, mBM, mBM0, pPop, pAppend, pExtend, pSetL, mSub, mDisp, mPs, mPs0, mRevL, mRevLM, pLstOfM, mTupRg, mRg1, mRg2, pPlusM, lstItems, dictOfP, keyP, keysP, val_left, val_mixed, val_draws, put_draws, mLc, mLcM, mLc2, mFor, mSeqI, mRng1, mRng2, mZip, mEnum, mSl, mNoPart, mPart, mSeq, mAsg, mAsg2, mCB, mCons, mNil, mVar, mC, mOp, mUn, pU, mTup, mLst, mRet, mRetN, mLstM, getl, setl, mName, mCall, mCallK, mIf, mIfS, mTest, mAnd, mOr, mNot, mYes, mAndV, mOrV, mNotV, mNext, mNever, mBreak, mCont, mDrop, mChain, mPar, mGTup, mGCons, mGNil, pGcd, pI, pI0, pIx, pTimes, pPlus, pEq, pNe, pLen, pSum, pMaxS, pAll, pAny, pTupOf, pLstOf, pIn, pIsB, pIsi, items_tup, items_lst, items_kl, items_mr, items_tab, items_lot, items_fr, decide_true, decide_false, eqP_int, eqP_bl, eqP_str, eqP_tup2, kit_tt, kit_ii, kit_ib, tyP, mEnd, wipeP, List.map_cons, List.map_nil, List.getElem?_cons_zero, List.getElem?_cons_succ, List.set_cons_zero, List.set_cons_succ, atI_zero, atI_one, if_true, if_false, ite_true, ite_false, Bool.false_eq_true, List.length_cons, List.length_nil, Bool.not_true, Bool.not_false, frP]
  refine ⟨m2, n2, m4, rfl, _, _, rfl, hd, ?_, ?_⟩
  · exact Nat.lt_of_lt_of_le (natAbs_mul_lt (x := (p.den : Int)) (y := (q.den : Int)) (by simpa using hp.2) (by simpa using hq.2)) (Nat.pow_le_pow_right (by decide) (by decide))
  · rw [rab_divInt _ _ hd, ← sub_eq]
    exact fin_keep hQ
abbrev N__law_table : List Str := ["_law_deck_here", "_law_n", "_law_bottoms", "_law_bottom", "_law_parts", "_law_left", "_law_at", "_law_part"]
theorem sc__law_table : FnScope N__law_table ["_law_deck_here", "_law_n", "_law_bottoms"] (defScope s__law_table) := ⟨rfl, rfl, rfl, by decide +kernel, rfl, by decide +kernel, by decide +kernel⟩
theorem ok__law_table (B : Blt mg) (h__law_table : Own K mg "_law_table" s__law_table) (k__law_pick : Ok P w K mg base 2 "_law_pick" s__law_pick ["_law_deck_here", "_law_some"] S__law_pick) (k__law_draw : Ok P w K mg base 1 "_law_draw" s__law_draw ["_law_deck_here", "_law_many"] S__law_draw) (k__law_fraction : Ok P w K mg base 2 "_law_fraction" s__law_fraction ["_law_top", "_law_bottom"] S__law_fraction) : Ok P w K mg base 3 "_law_table" s__law_table ["_law_deck_here", "_law_n", "_law_bottoms"] S__law_table := by
  obtain ⟨f_s, fd_s, F_s, g_s⟩ := h__law_table
  obtain ⟨f__law_pick, fd__law_pick, F__law_pick, g__law_pick, b__law_pick, G__law_pick⟩ := k__law_pick
  obtain ⟨f__law_draw, fd__law_draw, F__law_draw, g__law_draw, b__law_draw, G__law_draw⟩ := k__law_draw
  obtain ⟨f__law_fraction, fd__law_fraction, F__law_fraction, g__law_fraction, b__law_fraction, G__law_fraction⟩ := k__law_fraction
  refine ⟨f_s, fd_s, F_s, g_s, F_s.binds (fun _ _ _ _ _ _ us hl => match us, hl with | [_, _, _], _ => rfl), FnG.of F_s sc__law_table (fun xs μ Q h => by first | exact h.1 | exact h.2.1 | (obtain ⟨⟩ := h)) fun cdv A outer s H hr hgd => ⟨_, _, (pss_cons (ps_asg (pe_tup (pa_cons (pe_callG (G__law_pick.mono (by decide)) hr hgd (by rfl) g__law_pick F__law_pick.kp b__law_pick (pa_cons (pv 0) (pa_cons (pv 2) pa_nil))) (pa_cons (peLM (pe_lst pa_nil)) pa_nil))) (pg_tup (n := 2) rfl (pgs_cons (pg_name (i := 3) sc__law_table.nd rfl (Or.inr rfl)) (pgs_cons (pg_name (i := 4) sc__law_table.nd rfl (Or.inl rfl)) pgs_nil))))
 (pss_cons (ps_set (i := 5) sc__law_table.nd rfl (Or.inl rfl) (pv 3))
 (pss_cons (ps_for PassesOwn.never rfl (pi_range1 (by rfl) (B "range" (by decide)) (pa_cons (pe_op op_sub (pv 1) pe_int) pa_nil)) (pg_name (i := 6) sc__law_table.nd rfl (Or.inl rfl))
 (pss_cons (ps_expr (pe_bm PySem.F.plainAttrs_list PySem.F.slot_list_append PySem.F.type_list_append mt_append (pv 4) (pa_cons (pe_ifExp (pt_cmpR (op_eqX hr.units) (pe_callG (G__law_draw.mono (by decide)) hr hgd (by rfl) g__law_draw F__law_draw.kp b__law_draw (pa_cons (pv 0) (pa_cons pe_int pa_nil))) pe_int (nomark _)) (pe_callG (G__law_draw.mono (by decide)) hr hgd (by rfl) g__law_draw F__law_draw.kp b__law_draw (pa_cons (pv 0) (pa_cons (pe_op op_plus (pv 5) pe_int) pa_nil))) (pe_callB (cb_min2 rfl) (by rfl) (B "min" (by decide)) (by decide +kernel) (pa_cons (pv 5) (pa_cons (pe_callG (G__law_draw.mono (by decide)) hr hgd (by rfl) g__law_draw F__law_draw.kp b__law_draw (pa_cons (pv 0) (pa_cons (pe_op op_plus (pe_op op_divX (pe_op op_times pe_int (pv 3)) (pv 1)) pe_int) pa_nil))) pa_nil)))) pa_nil)))
 (pss_one (ps_set (i := 5) sc__law_table.nd rfl (Or.inl rfl) (pe_op op_sub (pv 5) (pe_ix ix_seq (pv 4) (pe_un un_neg pe_int) (fun _ _ => rfl)))))))
 (pss_cons (ps_expr (pe_bm PySem.F.plainAttrs_list PySem.F.slot_list_append PySem.F.type_list_append mt_append (pv 4) (pa_cons (pv 5) pa_nil)))
 (pss_cons (ps_set (i := 6) sc__law_table.nd rfl (Or.inl rfl) (pe_callG (G__law_draw.mono (by decide)) hr hgd (by rfl) g__law_draw F__law_draw.kp b__law_draw (pa_cons (pv 0) (pa_cons (pv 1) pa_nil))))
 (pss_cons (ps_asg (pe_tup (pa_cons (pe_ix ix_seq (pv 4) (pe_un un_neg pe_int) (fun _ _ => rfl)) (pa_cons (pe_ix ix_seq (pv 4) (pv 6) (fun _ _ => rfl)) pa_nil))) (pg_tup (n := 2) rfl (pgs_cons (pg_sub (pv 4) (pv 6) set_list) (pgs_cons (pg_sub (pv 4) (pe_un un_neg pe_int) set_list) pgs_nil))))
 (pss_one (ps_ret (pe_callTy cb_tup (by rfl) (B "tuple" (by decide)) (by decide +kernel) (pa_cons (pe_lc (own := [("_law_part", 7)]) (by rfl) sc__law_table.nd (pi_seqM (pv 4)) (blkOk_by (own := [("_law_part", 7)]) (N := N__law_table) (sc := defScope s__law_table) (by decide +kernel)) (fun _ _ _ _ _ => (pg_name (i := 7) sc__law_table.nd rfl (Or.inl rfl))) (fun _ _ _ _ _ => pts_nil) (fun _ _ _ _ _ => (pek_call K rfl (G__law_fraction.mono (by decide)) hr hgd (by rfl) g__law_fraction F__law_fraction.kp b__law_fraction (pa_cons (pv 7) (pa_cons (pv 3) pa_nil))))) pa_nil)))))))))), (by (try dsimp only [cxOf]); exact inferInstance), ?_⟩⟩
  intro xs μ Q hS
  obtain ⟨_, n, z, m, rest, x, Bs, rfl, hx, hD, n1, n8, hz, hB, hBl, hBb, hQ⟩ := hS
  rw [show startP N__law_table [.mr 1, .int n, x] = [some (.mr 1), some (.int n), some x, none, none, none, none, none] from rfl]
  refine stm_of fun R hR => ?_
  simp only [mBits, mEnumC, pSortX, mDNewT, mZipM, mDc, mLenSetL, mDGetT, mDGet2T, mDInT, mDPutT, mLockX, mLockEX, mKeysX, pLstX, pLenX, pMaxT, pSortT, str_to, str_ot, mPar3, mLockV, mLockE, mItemsC, mKeysC, mDGet2, pIsN, isNonP, pRepLM, mTruD, dkOfP, pPopAt, pIndex, mLstRgM, mTruth, pReprA, pLenD, pLstD, mDNew, pRepL, mLenSetN, mDIn, mSortSet, mSortSetL, mRevT, mForC, mSeqC, mLcC, pAbs, pMax2, pMin2, pInt1, mDGet, mDPut, mBM, mBM0, pPop, pAppend, pExtend, pSetL, mSub, mDisp, mPs, mPs0, mRevL, mRevLM, pLstOfM, mTupRg, mRg1, mRg2, pPlusM, lstItems, dictOfP, keyP, keysP, val_left, val_mixed, val_draws, put_draws, mLc, mLcM, mLc2, mFor, mSeqI, mRng1, mRng2, mZip, mEnum, mSl, mNoPart, mPart, mSeq, mAsg, mAsg2, mCB, mCons, mNil, mVar, mC, mOp, mUn, pU, mTup, mLst, mRet, mRetN, mLstM, getl, setl, mName, mCall, mCallK, mIf, mIfS, mTest, mAnd, mOr, mNot, mYes, mAndV, mOrV, mNotV, mNext, mNever, mBreak, mCont, mDrop, mChain, mPar, mGTup, mGCons, mGNil, pGcd, pI, pI0, pIx, pTimes, pPlus, pEq, pNe, pLen, pSum, pMaxS, pAll, pAny, pTupOf, pLstOf, pIn, pIsB, pIsi, items_tup, items_lst, items_kl, items_mr, items_tab, items_lot, items_fr, decide_true, decide_false, eqP_int, eqP_bl, eqP_str, eqP_tup2, kit_tt, kit_ii, kit_ib, tyP, mEnd, wipeP, List.map_cons, List.map_nil, List.getElem?_cons_zero, List.getElem?_cons_succ, List.set_cons_zero, List.set_cons_succ, atI_zero, atI_one, if_true, if_false, ite_true, ite_false, Bool.false_eq_true, List.length_cons, List.length_nil, Bool.not_true, Bool.not_false, S__law_pick]
  refine ⟨trivial, x, _, m, rest, rfl, .inl hx, hD, by rw [List.length_map]; exact List.length_pos_iff.mpr hB, by rw [List.length_map]; exact hBl, fun v hv μ1 D1 => ?_⟩
  obtain ⟨b, hb, rfl⟩ := List.mem_map.mp hv
  obtain ⟨b1, b2⟩ := hBb b hb
  clear hv hx
  refine ⟨by decide, by decide, trivial, ?_⟩
  subst hR
  refine stm_of fun R1 hR1 => ?_
  simp only [mBits, mEnumC, pSortX, mDNewT, mZipM, mDc, mLenSetL, mDGetT, mDGet2T, mDInT, mDPutT, mLockX, mLockEX, mKeysX, pLstX, pLenX, pMaxT, pSortT, str_to, str_ot, mPar3, mLockV, mLockE, mItemsC, mKeysC, mDGet2, pIsN, isNonP, pRepLM, mTruD, dkOfP, pPopAt, pIndex, mLstRgM, mTruth, pReprA, pLenD, pLstD, mDNew, pRepL, mLenSetN, mDIn, mSortSet, mSortSetL, mRevT, mForC, mSeqC, mLcC, pAbs, pMax2, pMin2, pInt1, mDGet, mDPut, mBM, mBM0, pPop, pAppend, pExtend, pSetL, mSub, mDisp, mPs, mPs0, mRevL, mRevLM, pLstOfM, mTupRg, mRg1, mRg2, pPlusM, lstItems, dictOfP, keyP, keysP, val_left, val_mixed, val_draws, put_draws, mLc, mLcM, mLc2, mFor, mSeqI, mRng1, mRng2, mZip, mEnum, mSl, mNoPart, mPart, mSeq, mAsg, mAsg2, mCB, mCons, mNil, mVar, mC, mOp, mUn, pU, mTup, mLst, mRet, mRetN, mLstM, getl, setl, mName, mCall, mCallK, mIf, mIfS, mTest, mAnd, mOr, mNot, mYes, mAndV, mOrV, mNotV, mNext, mNever, mBreak, mCont, mDrop, mChain, mPar, mGTup, mGCons, mGNil, pGcd, pI, pI0, pIx, pTimes, pPlus, pEq, pNe, pLen, pSum, pMaxS, pAll, pAny, pTupOf, pLstOf, pIn, pIsB, pIsi, items_tup, items_lst, items_kl, items_mr, items_tab, items_lot, items_fr, decide_true, decide_false, eqP_int, eqP_bl, eqP_str, eqP_tup2, kit_tt, kit_ii, kit_ib, tyP, mEnd, wipeP, List.map_cons, List.map_nil, List.getElem?_cons_zero, List.getElem?_cons_succ, List.set_cons_zero, List.set_cons_succ, atI_zero, atI_one, if_true, if_false, ite_true, ite_false, Bool.false_eq_true, List.length_cons, List.length_nil, Bool.not_true, Bool.not_false]
  subst hR1
  refine stm_of fun R2 hR2 => ?_
  simp only [mBits, mEnumC, pSortX, mDNewT, mZipM, mDc, mLenSetL, mDGetT, mDGet2T, mDInT, mDPutT, mLockX, mLockEX, mKeysX, pLstX, pLenX, pMaxT, pSortT, str_to, str_ot, mPar3, mLockV, mLockE, mItemsC, mKeysC, mDGet2, pIsN, isNonP, pRepLM, mTruD, dkOfP, pPopAt, pIndex, mLstRgM, mTruth, pReprA, pLenD, pLstD, mDNew, pRepL, mLenSetN, mDIn, mSortSet, mSortSetL, mRevT, mForC, mSeqC, mLcC, pAbs, pMax2, pMin2, pInt1, mDGet, mDPut, mBM, mBM0, pPop, pAppend, pExtend, pSetL, mSub, mDisp, mPs, mPs0, mRevL, mRevLM, pLstOfM, mTupRg, mRg1, mRg2, pPlusM, lstItems, dictOfP, keyP, keysP, val_left, val_mixed, val_draws, put_draws, mLc, mLcM, mLc2, mFor, mSeqI, mRng1, mRng2, mZip, mEnum, mSl, mNoPart, mPart, mSeq, mAsg, mAsg2, mCB, mCons, mNil, mVar, mC, mOp, mUn, pU, mTup, mLst, mRet, mRetN, mLstM, getl, setl, mName, mCall, mCallK, mIf, mIfS, mTest, mAnd, mOr, mNot, mYes, mAndV, mOrV, mNotV, mNext, mNever, mBreak, mCont, mDrop, mChain, mPar, mGTup, mGCons, mGNil, pGcd, pI, pI0, pIx, pTimes, pPlus, pEq, pNe, pLen, pSum, pMaxS, pAll, pAny, pTupOf, pLstOf, pIn, pIsB, pIsi, items_tup, items_lst, items_kl, items_mr, items_tab, items_lot, items_fr, decide_true, decide_false, eqP_int, eqP_bl, eqP_str, eqP_tup2, kit_tt, kit_ii, kit_ib, tyP, mEnd, wipeP, List.map_cons, List.map_nil, List.getElem?_cons_zero, List.getElem?_cons_succ, List.set_cons_zero, List.set_cons_succ, atI_zero, atI_one, if_true, if_false, ite_true, ite_false, Bool.false_eq_true, List.length_cons, List.length_nil, Bool.not_true, Bool.not_false]
  have hml := D1.len
  have hd : ∀ y : Int, DivOk y (n : Nat) := fun y => .inl ⟨by omega, by have := log_lt (x := (n : Int)) (n := 4) (by rw [Int.natAbs_natCast]; omega); omega⟩
  have hb44 : b < 2 ^ 44 := Nat.lt_of_lt_of_le b2 (Nat.pow_le_pow_right (by decide) hz)
  have e44 : (2 : Nat) ^ 44 = 17592186044416 := by decide
  rw [hml, show ((n : Nat) : Int) - 1 = ((n - 1 : Nat) : Int) by omega, Int.toNat_natCast, rangeP_eq]
  refine ⟨⟨by omega, by omega⟩, for_inv (enc := fun (i : Nat) => PV.int i) (fun pre ρ μ' => ∃ (L : List Nat) (left : Nat) (y6 y7 : Option PV), ρ = [some (.mr 1), some (.int (n : Nat)), some x, some (.int (b : Nat)), some (.mr (rest.length + 0 + 2)), some (.int (left : Nat)), y6, y7] ∧ Dk m (rest ++ [.lst (L.map fun (p : Nat) => PV.int p)]) μ' ∧ L.length = pre.length ∧ L.sum + left = b) (done := []) ⟨[], b, _, _, rfl, D1.app _, rfl, by simp⟩ (fun pre i post ρ μ2 e hI N hN => ?_) fun ρ μ2 hI => ?_⟩
  · obtain ⟨L, left, y6, y7, rfl, D2, hL, hs⟩ := hI
    have hpl : pre.length < n := by
      have := congrArg List.length e
      simp at this
      omega
    have g2 := fun {ν : Store} (h : Dk m (rest ++ [.lst (L.map fun (p : Nat) => PV.int p)]) ν) => (cl_get h 0).trans (show [MO.lst (L.map fun (p : Nat) => PV.int p)][0]? = some (MO.lst (L.map fun (p : Nat) => PV.int p)) from rfl)
    show mSeq _ _ _ _ _
    refine stm_of fun R3 hR3 => ?_
    have hdone : ∀ (v : Int) (ν : Store), 0 ≤ v → v ≤ left → Dk m (rest ++ [.lst (L.map fun (p : Nat) => PV.int p)]) ν → R3 [some (.mr 1), some (.int (n : Nat)), some x, some (.int (b : Nat)), some (.mr (rest.length + 0 + 2)), some (.int (left : Nat)), some (.int (i : Nat)), y7] (ν.set (rest.length + 0 + 2) (.lst ((L.map fun (p : Nat) => PV.int p) ++ [.int v]))) := by
      intro v ν v0 v1 D
      obtain ⟨v, rfl⟩ : ∃ j : Nat, v = (j : Int) := ⟨v.toNat, by omega⟩
      have D' := cl_set D 0 (.lst ((L.map fun (p : Nat) => PV.int p) ++ [.int (v : Nat)]))
      have g' := (cl_get D' 0).trans (show [MO.lst ((L.map fun (p : Nat) => PV.int p) ++ [.int (v : Nat)])][0]? = some (MO.lst ((L.map fun (p : Nat) => PV.int p) ++ [.int (v : Nat)])) from rfl)
      subst hR3
      simp only [mBits, mEnumC, pSortX, mDNewT, mZipM, mDc, mLenSetL, mDGetT, mDGet2T, mDInT, mDPutT, mLockX, mLockEX, mKeysX, pLstX, pLenX, pMaxT, pSortT, str_to, str_ot, mPar3, mLockV, mLockE, mItemsC, mKeysC, mDGet2, pIsN, isNonP, pRepLM, mTruD, dkOfP, pPopAt, pIndex, mLstRgM, mTruth, pReprA, pLenD, pLstD, mDNew, pRepL, mLenSetN, mDIn, mSortSet, mSortSetL, mRevT, mForC, mSeqC, mLcC, pAbs, pMax2, pMin2, pInt1, mDGet, mDPut, mBM, mBM0, pPop, pAppend, pExtend, pSetL, mSub, mDisp, mPs, mPs0, mRevL, mRevLM, pLstOfM, mTupRg, mRg1, mRg2, pPlusM, lstItems, dictOfP, keyP, keysP, val_left, val_mixed, val_draws, put_draws, mLc, mLcM, mLc2, mFor, mSeqI, mRng1, mRng2, mZip, mEnum, mSl, mNoPart, mPart, mSeq, mAsg, mAsg2, mCB, mCons, mNil, mVar, mC, mOp, mUn, pU, mTup, mLst, mRet, mRetN, mLstM, getl, setl, mName, mCall, mCallK, mIf, mIfS, mTest, mAnd, mOr, mNot, mYes, mAndV, mOrV, mNotV, mNext, mNever, mBreak, mCont, mDrop, mChain, mPar, mGTup, mGCons, mGNil, pGcd, pI, pI0, pIx, pTimes, pPlus, pEq, pNe, pLen, pSum, pMaxS, pAll, pAny, pTupOf, pLstOf, pIn, pIsB, pIsi, items_tup, items_lst, items_kl, items_mr, items_tab, items_lot, items_fr, decide_true, decide_false, eqP_int, eqP_bl, eqP_str, eqP_tup2, kit_tt, kit_ii, kit_ib, tyP, mEnd, wipeP, List.map_cons, List.map_nil, List.getElem?_cons_zero, List.getElem?_cons_succ, List.set_cons_zero, List.set_cons_succ, atI_zero, atI_one, if_true, if_false, ite_true, ite_false, Bool.false_eq_true, List.length_cons, List.length_nil, Bool.not_true, Bool.not_false, g', atI_last]
      rw [show ((left : Nat) : Int) - (v : Int) = ((left - v : Nat) : Int) by omega]
      refine hN _ _ ⟨L ++ [v], left - v, _, _, rfl, ?_, by rw [List.length_append, List.length_append, hL]; rfl, by rw [List.sum_append]; simp; omega⟩
      rw [List.map_append]
      exact D'
    simp only [mBits, mEnumC, pSortX, mDNewT, mZipM, mDc, mLenSetL, mDGetT, mDGet2T, mDInT, mDPutT, mLockX, mLockEX, mKeysX, pLstX, pLenX, pMaxT, pSortT, str_to, str_ot, mPar3, mLockV, mLockE, mItemsC, mKeysC, mDGet2, pIsN, isNonP, pRepLM, mTruD, dkOfP, pPopAt, pIndex, mLstRgM, mTruth, pReprA, pLenD, pLstD, mDNew, pRepL, mLenSetN, mDIn, mSortSet, mSortSetL, mRevT, mForC, mSeqC, mLcC, pAbs, pMax2, pMin2, pInt1, mDGet, mDPut, mBM, mBM0, pPop, pAppend, pExtend, pSetL, mSub, mDisp, mPs, mPs0, mRevL, mRevLM, pLstOfM, mTupRg, mRg1, mRg2, pPlusM, lstItems, dictOfP, keyP, keysP, val_left, val_mixed, val_draws, put_draws, mLc, mLcM, mLc2, mFor, mSeqI, mRng1, mRng2, mZip, mEnum, mSl, mNoPart, mPart, mSeq, mAsg, mAsg2, mCB, mCons, mNil, mVar, mC, mOp, mUn, pU, mTup, mLst, mRet, mRetN, mLstM, getl, setl, mName, mCall, mCallK, mIf, mIfS, mTest, mAnd, mOr, mNot, mYes, mAndV, mOrV, mNotV, mNext, mNever, mBreak, mCont, mDrop, mChain, mPar, mGTup, mGCons, mGNil, pGcd, pI, pI0, pIx, pTimes, pPlus, pEq, pNe, pLen, pSum, pMaxS, pAll, pAny, pTupOf, pLstOf, pIn, pIsB, pIsi, items_tup, items_lst, items_kl, items_mr, items_tab, items_lot, items_fr, decide_true, decide_false, eqP_int, eqP_bl, eqP_str, eqP_tup2, kit_tt, kit_ii, kit_ib, tyP, mEnd, wipeP, List.map_cons, List.map_nil, List.getElem?_cons_zero, List.getElem?_cons_succ, List.set_cons_zero, List.set_cons_succ, atI_zero, atI_one, if_true, if_false, ite_true, ite_false, Bool.false_eq_true, List.length_cons, List.length_nil, Bool.not_true, Bool.not_false, g2 D2, S__law_draw]
    have hLl : (L.map fun (p : Nat) => PV.int p).length ≤ lim := by rw [List.length_map]; unfold lim; omega
    refine ⟨trivial, 3, m, _, rfl, D2, by decide, by decide, fun y μ3 y0 y1 D3 => ?_⟩
    split
    · refine ⟨trivial, _, m, _, rfl, D3, by omega, by omega, fun v μ4 v0 v1 D4 => ?_⟩
      rw [g2 D4]
      exact ⟨hLl, hdone v _ v0 (by omega) D4⟩
    · have hq : (0 : Int) ≤ (2 * ((b : Nat) : Int)).fdiv (n : Nat) ∧ (2 * ((b : Nat) : Int)).fdiv (n : Nat) ≤ 2 * b := by
        rw [show 2 * ((b : Nat) : Int) = ((2 * b : Nat) : Int) by omega, fdivN]
        exact ⟨Int.natCast_nonneg _, Int.ofNat_le.mpr (Nat.div_le_self (2 * b) n)⟩
      refine ⟨mulL (by decide) (by decide), hd _, trivial, _, m, _, rfl, D3, by omega, by omega, fun v μ4 v0 v1 D4 => ?_⟩
      rw [g2 D4]
      refine ⟨hLl, ?_⟩
      split
      · exact hdone v _ v0 (by omega) D4
      · exact hdone left _ (by omega) (by omega) D4
  · obtain ⟨L, left, y6, y7, rfl, D2, hL, hs⟩ := hI
    rw [List.nil_append, List.length_range] at hL
    have g2 := (cl_get D2 0).trans (show [MO.lst (L.map fun (p : Nat) => PV.int p)][0]? = some (MO.lst (L.map fun (p : Nat) => PV.int p)) from rfl)
    show R2 _ _
    subst hR2
    refine stm_of fun R3 hR3 => ?_
    simp only [mBits, mEnumC, pSortX, mDNewT, mZipM, mDc, mLenSetL, mDGetT, mDGet2T, mDInT, mDPutT, mLockX, mLockEX, mKeysX, pLstX, pLenX, pMaxT, pSortT, str_to, str_ot, mPar3, mLockV, mLockE, mItemsC, mKeysC, mDGet2, pIsN, isNonP, pRepLM, mTruD, dkOfP, pPopAt, pIndex, mLstRgM, mTruth, pReprA, pLenD, pLstD, mDNew, pRepL, mLenSetN, mDIn, mSortSet, mSortSetL, mRevT, mForC, mSeqC, mLcC, pAbs, pMax2, pMin2, pInt1, mDGet, mDPut, mBM, mBM0, pPop, pAppend, pExtend, pSetL, mSub, mDisp, mPs, mPs0, mRevL, mRevLM, pLstOfM, mTupRg, mRg1, mRg2, pPlusM, lstItems, dictOfP, keyP, keysP, val_left, val_mixed, val_draws, put_draws, mLc, mLcM, mLc2, mFor, mSeqI, mRng1, mRng2, mZip, mEnum, mSl, mNoPart, mPart, mSeq, mAsg, mAsg2, mCB, mCons, mNil, mVar, mC, mOp, mUn, pU, mTup, mLst, mRet, mRetN, mLstM, getl, setl, mName, mCall, mCallK, mIf, mIfS, mTest, mAnd, mOr, mNot, mYes, mAndV, mOrV, mNotV, mNext, mNever, mBreak, mCont, mDrop, mChain, mPar, mGTup, mGCons, mGNil, pGcd, pI, pI0, pIx, pTimes, pPlus, pEq, pNe, pLen, pSum, pMaxS, pAll, pAny, pTupOf, pLstOf, pIn, pIsB, pIsi, items_tup, items_lst, items_kl, items_mr, items_tab, items_lot, items_fr, decide_true, decide_false, eqP_int, eqP_bl, eqP_str, eqP_tup2, kit_tt, kit_ii, kit_ib, tyP, mEnd, wipeP, List.map_cons, List.map_nil, List.getElem?_cons_zero, List.getElem?_cons_succ, List.set_cons_zero, List.set_cons_succ, atI_zero, atI_one, if_true, if_false, ite_true, ite_false, Bool.false_eq_true, List.length_cons, List.length_nil, Bool.not_true, Bool.not_false, g2]
    have hLl : (L.map fun (p : Nat) => PV.int p).length ≤ lim := by rw [List.length_map]; unfold lim; omega
    refine ⟨hLl, ?_⟩
    have D3 := cl_set D2 0 (.lst ((L ++ [left]).map fun (p : Nat) => PV.int p))
    have e1 : (L.map fun (p : Nat) => PV.int p) ++ [PV.int (left : Nat)] = (L ++ [left]).map fun (p : Nat) => PV.int p := by rw [List.map_append]; rfl
    rw [e1]
    have hLn : (L ++ [left]).length = n := by rw [List.length_append, List.length_singleton]; omega
    have hsum : (L ++ [left]).sum = b := by rw [List.sum_append]; simp; omega
    generalize L ++ [left] = F at *
    clear g2 D2 hs hL e1 hLl
    generalize μ2.set (rest.length + 0 + 2) (MO.lst (F.map fun (p : Nat) => PV.int p)) = ν at *
    have D3 : Dk m (rest ++ [.lst (F.map fun (p : Nat) => PV.int p)]) ν := D3
    subst hR3
    refine stm_of fun R4 hR4 => ?_
    simp only [mBits, mEnumC, pSortX, mDNewT, mZipM, mDc, mLenSetL, mDGetT, mDGet2T, mDInT, mDPutT, mLockX, mLockEX, mKeysX, pLstX, pLenX, pMaxT, pSortT, str_to, str_ot, mPar3, mLockV, mLockE, mItemsC, mKeysC, mDGet2, pIsN, isNonP, pRepLM, mTruD, dkOfP, pPopAt, pIndex, mLstRgM, mTruth, pReprA, pLenD, pLstD, mDNew, pRepL, mLenSetN, mDIn, mSortSet, mSortSetL, mRevT, mForC, mSeqC, mLcC, pAbs, pMax2, pMin2, pInt1, mDGet, mDPut, mBM, mBM0, pPop, pAppend, pExtend, pSetL, mSub, mDisp, mPs, mPs0, mRevL, mRevLM, pLstOfM, mTupRg, mRg1, mRg2, pPlusM, lstItems, dictOfP, keyP, keysP, val_left, val_mixed, val_draws, put_draws, mLc, mLcM, mLc2, mFor, mSeqI, mRng1, mRng2, mZip, mEnum, mSl, mNoPart, mPart, mSeq, mAsg, mAsg2, mCB, mCons, mNil, mVar, mC, mOp, mUn, pU, mTup, mLst, mRet, mRetN, mLstM, getl, setl, mName, mCall, mCallK, mIf, mIfS, mTest, mAnd, mOr, mNot, mYes, mAndV, mOrV, mNotV, mNext, mNever, mBreak, mCont, mDrop, mChain, mPar, mGTup, mGCons, mGNil, pGcd, pI, pI0, pIx, pTimes, pPlus, pEq, pNe, pLen, pSum, pMaxS, pAll, pAny, pTupOf, pLstOf, pIn, pIsB, pIsi, items_tup, items_lst, items_kl, items_mr, items_tab, items_lot, items_fr, decide_true, decide_false, eqP_int, eqP_bl, eqP_str, eqP_tup2, kit_tt, kit_ii, kit_ib, tyP, mEnd, wipeP, List.map_cons, List.map_nil, List.getElem?_cons_zero, List.getElem?_cons_succ, List.set_cons_zero, List.set_cons_succ, atI_zero, atI_one, if_true, if_false, ite_true, ite_false, Bool.false_eq_true, List.length_cons, List.length_nil, Bool.not_true, Bool.not_false, S__law_draw]
    refine ⟨trivial, _, m, _, rfl, D3, by omega, by omega, fun y μ3 y0 y1 D4 => ?_⟩
    obtain ⟨j, rfl⟩ : ∃ j : Nat, y = (j : Int) := ⟨y.toNat, by omega⟩
    have hj : j < F.length := by omega
    have hl : n - 1 < F.length := by omega
    have g4 := (cl_get D4 0).trans (show [MO.lst (F.map fun (p : Nat) => PV.int p)][0]? = some (MO.lst (F.map fun (p : Nat) => PV.int p)) from rfl)
    have a1 : L2.atI (F.map fun (p : Nat) => PV.int p) (-1) = some (.int (F[n - 1] : Nat)) := by
      unfold L2.atI
      rw [List.length_map, hLn, ixN_last n1]
      show (F.map fun (p : Nat) => PV.int p)[n - 1]? = _
      rw [List.getElem?_map, List.getElem?_eq_getElem hl]; rfl
    have a2 : L2.atI (F.map fun (p : Nat) => PV.int p) (j : Int) = some (.int (F[j] : Nat)) := by
      refine atI_some ?_
      rw [List.getElem?_map, List.getElem?_eq_getElem hj]; rfl
    subst hR4
    refine stm_of fun R5 hR5 => ?_
    have D5 := cl_set D4 0 (.lst ((F.set j F[n - 1]).map fun (p : Nat) => PV.int p))
    have g5 := (cl_get D5 0).trans (show [MO.lst ((F.set j F[n - 1]).map fun (p : Nat) => PV.int p)][0]? = some (MO.lst ((F.set j F[n - 1]).map fun (p : Nat) => PV.int p)) from rfl)
    simp only [mBits, mEnumC, pSortX, mDNewT, mZipM, mDc, mLenSetL, mDGetT, mDGet2T, mDInT, mDPutT, mLockX, mLockEX, mKeysX, pLstX, pLenX, pMaxT, pSortT, str_to, str_ot, mPar3, mLockV, mLockE, mItemsC, mKeysC, mDGet2, pIsN, isNonP, pRepLM, mTruD, dkOfP, pPopAt, pIndex, mLstRgM, mTruth, pReprA, pLenD, pLstD, mDNew, pRepL, mLenSetN, mDIn, mSortSet, mSortSetL, mRevT, mForC, mSeqC, mLcC, pAbs, pMax2, pMin2, pInt1, mDGet, mDPut, mBM, mBM0, pPop, pAppend, pExtend, pSetL, mSub, mDisp, mPs, mPs0, mRevL, mRevLM, pLstOfM, mTupRg, mRg1, mRg2, pPlusM, lstItems, dictOfP, keyP, keysP, val_left, val_mixed, val_draws, put_draws, mLc, mLcM, mLc2, mFor, mSeqI, mRng1, mRng2, mZip, mEnum, mSl, mNoPart, mPart, mSeq, mAsg, mAsg2, mCB, mCons, mNil, mVar, mC, mOp, mUn, pU, mTup, mLst, mRet, mRetN, mLstM, getl, setl, mName, mCall, mCallK, mIf, mIfS, mTest, mAnd, mOr, mNot, mYes, mAndV, mOrV, mNotV, mNext, mNever, mBreak, mCont, mDrop, mChain, mPar, mGTup, mGCons, mGNil, pGcd, pI, pI0, pIx, pTimes, pPlus, pEq, pNe, pLen, pSum, pMaxS, pAll, pAny, pTupOf, pLstOf, pIn, pIsB, pIsi, items_tup, items_lst, items_kl, items_mr, items_tab, items_lot, items_fr, decide_true, decide_false, eqP_int, eqP_bl, eqP_str, eqP_tup2, kit_tt, kit_ii, kit_ib, tyP, mEnd, wipeP, List.map_cons, List.map_nil, List.getElem?_cons_zero, List.getElem?_cons_succ, List.set_cons_zero, List.set_cons_succ, atI_zero, atI_one, if_true, if_false, ite_true, ite_false, Bool.false_eq_true, List.length_cons, List.length_nil, Bool.not_true, Bool.not_false, g4, a1, a2, List.length_map, ixN_nat hj, set_map (fun (p : Nat) => PV.int p), g5]
    rw [List.length_set, hLn, ixN_last n1]
    refine ⟨by decide, trivial, ?_⟩
    simp only
    have D6 := cl_set D5 0 (.lst (((F.set j F[n - 1]).set (n - 1) F[j]).map fun (p : Nat) => PV.int p))
    have D6 : Dk m (rest ++ [.lst (((F.set j F[n - 1]).set (n - 1) F[j]).map fun (p : Nat) => PV.int p)]) _ := D6
    have hperm := List.set_set_perm hj hl
    have hs2 := hperm.sum_nat
    have hl2 := hperm.length_eq
    rw [hsum] at hs2
    rw [hLn] at hl2
    generalize (F.set j F[n - 1]).set (n - 1) F[j] = F2 at *
    generalize ((μ3.set (rest.length + 0 + 2) (MO.lst ((F.set j F[n - 1]).map fun (p : Nat) => PV.int p))).set (rest.length + 0 + 2) (MO.lst (F2.map fun (p : Nat) => PV.int p))) = ν6 at *
    have g6 := (cl_get D6 0).trans (show [MO.lst (F2.map fun (p : Nat) => PV.int p)][0]? = some (MO.lst (F2.map fun (p : Nat) => PV.int p)) from rfl)
    subst hR5
    simp only [mBits, mEnumC, pSortX, mDNewT, mZipM, mDc, mLenSetL, mDGetT, mDGet2T, mDInT, mDPutT, mLockX, mLockEX, mKeysX, pLstX, pLenX, pMaxT, pSortT, str_to, str_ot, mPar3, mLockV, mLockE, mItemsC, mKeysC, mDGet2, pIsN, isNonP, pRepLM, mTruD, dkOfP, pPopAt, pIndex, mLstRgM, mTruth, pReprA, pLenD, pLstD, mDNew, pRepL, mLenSetN, mDIn, mSortSet, mSortSetL, mRevT, mForC, mSeqC, mLcC, pAbs, pMax2, pMin2, pInt1, mDGet, mDPut, mBM, mBM0, pPop, pAppend, pExtend, pSetL, mSub, mDisp, mPs, mPs0, mRevL, mRevLM, pLstOfM, mTupRg, mRg1, mRg2, pPlusM, lstItems, dictOfP, keyP, keysP, val_left, val_mixed, val_draws, put_draws, mLc, mLcM, mLc2, mFor, mSeqI, mRng1, mRng2, mZip, mEnum, mSl, mNoPart, mPart, mSeq, mAsg, mAsg2, mCB, mCons, mNil, mVar, mC, mOp, mUn, pU, mTup, mLst, mRet, mRetN, mLstM, getl, setl, mName, mCall, mCallK, mIf, mIfS, mTest, mAnd, mOr, mNot, mYes, mAndV, mOrV, mNotV, mNext, mNever, mBreak, mCont, mDrop, mChain, mPar, mGTup, mGCons, mGNil, pGcd, pI, pI0, pIx, pTimes, pPlus, pEq, pNe, pLen, pSum, pMaxS, pAll, pAny, pTupOf, pLstOf, pIn, pIsB, pIsi, items_tup, items_lst, items_kl, items_mr, items_tab, items_lot, items_fr, decide_true, decide_false, eqP_int, eqP_bl, eqP_str, eqP_tup2, kit_tt, kit_ii, kit_ib, tyP, mEnd, wipeP, List.map_cons, List.map_nil, List.getElem?_cons_zero, List.getElem?_cons_succ, List.set_cons_zero, List.set_cons_succ, atI_zero, atI_one, if_true, if_false, ite_true, ite_false, Bool.false_eq_true, List.length_cons, List.length_nil, Bool.not_true, Bool.not_false, g6]
    refine ⟨by decide, by rw [List.length_map]; unfold lim; omega, lcC_map (enc := fun (p : Nat) => PV.int p) (out := fun (p : Nat) => frP (Rat.divInt (p : Nat) (b : Nat))) g6 (fun p hp k hk => ?_) ?_⟩
    · simp only [mBits, mEnumC, pSortX, mDNewT, mZipM, mDc, mLenSetL, mDGetT, mDGet2T, mDInT, mDPutT, mLockX, mLockEX, mKeysX, pLstX, pLenX, pMaxT, pSortT, str_to, str_ot, mPar3, mLockV, mLockE, mItemsC, mKeysC, mDGet2, pIsN, isNonP, pRepLM, mTruD, dkOfP, pPopAt, pIndex, mLstRgM, mTruth, pReprA, pLenD, pLstD, mDNew, pRepL, mLenSetN, mDIn, mSortSet, mSortSetL, mRevT, mForC, mSeqC, mLcC, pAbs, pMax2, pMin2, pInt1, mDGet, mDPut, mBM, mBM0, pPop, pAppend, pExtend, pSetL, mSub, mDisp, mPs, mPs0, mRevL, mRevLM, pLstOfM, mTupRg, mRg1, mRg2, pPlusM, lstItems, dictOfP, keyP, keysP, val_left, val_mixed, val_draws, put_draws, mLc, mLcM, mLc2, mFor, mSeqI, mRng1, mRng2, mZip, mEnum, mSl, mNoPart, mPart, mSeq, mAsg, mAsg2, mCB, mCons, mNil, mVar, mC, mOp, mUn, pU, mTup, mLst, mRet, mRetN, mLstM, getl, setl, mName, mCall, mCallK, mIf, mIfS, mTest, mAnd, mOr, mNot, mYes, mAndV, mOrV, mNotV, mNext, mNever, mBreak, mCont, mDrop, mChain, mPar, mGTup, mGCons, mGNil, pGcd, pI, pI0, pIx, pTimes, pPlus, pEq, pNe, pLen, pSum, pMaxS, pAll, pAny, pTupOf, pLstOf, pIn, pIsB, pIsi, items_tup, items_lst, items_kl, items_mr, items_tab, items_lot, items_fr, decide_true, decide_false, eqP_int, eqP_bl, eqP_str, eqP_tup2, kit_tt, kit_ii, kit_ib, tyP, mEnd, wipeP, List.map_cons, List.map_nil, List.getElem?_cons_zero, List.getElem?_cons_succ, List.set_cons_zero, List.set_cons_succ, atI_zero, atI_one, if_true, if_false, ite_true, ite_false, Bool.false_eq_true, List.length_cons, List.length_nil, Bool.not_true, Bool.not_false, S__law_fraction]
      refine ⟨trivial, _, _, rfl, by omega, ?_, hk⟩
      rw [Int.natAbs_natCast]
      exact Nat.lt_of_lt_of_le hb44 (Nat.pow_le_pow_right (by decide) (by decide))
    · rw [List.nil_append]
      have hT := parts_tab hl2 n1 n8 hs2 b1 b2
      have e9 : PV.tup (F2.map fun (p : Nat) => frP (Rat.divInt (p : Nat) (b : Nat))) = tabP (F2.map fun (p : Nat) => Rat.divInt (p : Nat) (b : Nat)) := by
        unfold tabP; rw [List.map_map]; rfl
      rw [e9]
      exact fin_keep (hQ _ _ _ hT (by rw [List.length_map]; exact hl2) D6)
abbrev N__law_over : List Str := ["_law_one", "_law_other"]
theorem sc__law_over : FnScope N__law_over ["_law_one", "_law_other"] (defScope s__law_over) := ⟨rfl, rfl, rfl, by decide +kernel, rfl, by decide +kernel, by decide +kernel⟩
theorem ok__law_over (B : Blt mg) (h__law_over : Own K mg "_law_over" s__law_over) (k__law_fraction : Ok P w K mg base 2 "_law_fraction" s__law_fraction ["_law_top", "_law_bottom"] S__law_fraction) : Ok P w K mg base 3 "_law_over" s__law_over ["_law_one", "_law_other"] S__law_over := by
  obtain ⟨f_s, fd_s, F_s, g_s⟩ := h__law_over
  obtain ⟨f__law_fraction, fd__law_fraction, F__law_fraction, g__law_fraction, b__law_fraction, G__law_fraction⟩ := k__law_fraction
  refine ⟨f_s, fd_s, F_s, g_s, F_s.binds (fun _ _ _ _ _ _ us hl => match us, hl with | [_, _], _ => rfl), FnG.of F_s sc__law_over (fun xs μ Q h => by first | exact h.1 | exact h.2.1 | (obtain ⟨⟩ := h)) fun cdv A outer s H hr hgd => ⟨_, _, (pss_one (ps_ret (pe_callG (G__law_fraction.mono (by decide)) hr hgd (by rfl) g__law_fraction F__law_fraction.kp b__law_fraction (pa_cons (pe_op op_times (pe_ix ix_seq (pv 0) pe_int (fun _ _ => rfl)) (pe_ix ix_seq (pv 1) pe_int (fun _ _ => rfl))) (pa_cons (pe_op op_times (pe_ix ix_seq (pv 0) pe_int (fun _ _ => rfl)) (pe_ix ix_seq (pv 1) pe_int (fun _ _ => rfl))) pa_nil))))), (by (try dsimp only [cxOf]); exact inferInstance), ?_⟩⟩
  intro xs μ Q hS
  obtain ⟨_, p, q, rfl, hp, hq, q0, hQ⟩ := hS
  rw [show startP N__law_over [frP p, frP q] = [some (frP p), some (frP q)] from rfl]
  obtain ⟨m1, m2, m3, m4⟩ := fr_mul hp hq
  obtain ⟨f1, f2⟩ := div_frac (p := p) q0
  simp only [mBits, mEnumC, pSortX, mDNewT, mZipM, mDc, mLenSetL, mDGetT, mDGet2T, mDInT, mDPutT, mLockX, mLockEX, mKeysX, pLstX, pLenX, pMaxT, pSortT, str_to, str_ot, mPar3, mLockV, mLockE, mItemsC, mKeysC, mDGet2, pIsN, isNonP, pRepLM, mTruD, dkOfP, pPopAt, pIndex, mLstRgM, mTruth, pReprA, pLenD, pLstD, mDNew, pRepL, mLenSetN, mDIn, mSortSet, mSortSetL, mRevT, mForC, mSeqC, mLcC, pAbs, pMax2, pMin2, pInt1, mDGet, mDPut, mBM, mBM0, pPop, pAppend, pExtend, pSetL, mSub, mDisp, mPs, mPs0, mRevL, mRevLM, pLstOfM, mTupRg, mRg1, mRg2, pPlusM, lstItems, dictOfP, keyP, keysP, val_left, val_mixed, val_draws, put_draws, mLc, mLcM, mLc2, mFor, mSeqI, mRng1, mRng2, mZip, mEnum, mSl, mNoPart, mPart, mSeq, mAsg, mAsg2, mCB, mCons, mNil, mVar, mC, mOp, mUn, pU, mTup, mLst, mRet, mRetN, mLstM, getl, setl, mName, mCall, mCallK, mIf, mIfS, mTest, mAnd, mOr, mNot, mYes, mAndV, mOrV, mNotV, mNext, mNever, mBreak, mCont, mDrop, mChain, mPar, mGTup, mGCons, mGNil, pGcd, pI, pI0, pIx, pTimes, pPlus, pEq, pNe, pLen, pSum, pMaxS, pAll, pAny, pTupOf, pLstOf, pIn, pIsB, pIsi, items_tup, items_lst, items_kl, items_mr, items_tab, items_lot, items_fr, decide_true, decide_false, eqP_int, eqP_bl, eqP_str, eqP_tup2, kit_tt, kit_ii, kit_ib, tyP, mEnd, wipeP, List.map_cons, List.map_nil, List.getElem?_cons_zero, List.getElem?_cons_succ, List.set_cons_zero, List.set_cons_succ, atI_zero, atI_one, if_true, if_false, ite_true, ite_false, Bool.false_eq_true, List.length_cons, List.length_nil, Bool.not_true, Bool.not_false, frP, S__law_fraction]
  refine ⟨m2, m3, trivial, _, _, rfl, f1, ?_, ?_⟩
  · exact Nat.lt_of_lt_of_le (natAbs_mul_lt (x := (p.den : Int)) (y := q.num) (by simpa using hp.2) hq.1) (Nat.pow_le_pow_right (by decide) (by decide))
  · rw [f2]
    exact fin_keep hQ
abbrev N__law_plus : List Str := ["_law_one", "_law_other"]
theorem sc__law_plus : FnScope N__law_plus ["_law_one", "_law_other"] (defScope s__law_plus) := ⟨rfl, rfl, rfl, by decide +kernel, rfl, by decide +kernel, by decide +kernel⟩
theorem ok__law_plus (B : Blt mg) (h__law_plus : Own K mg "_law_plus" s__law_plus) (k__law_fraction : Ok P w K mg base 2 "_law_fraction" s__law_fraction ["_law_top", "_law_bottom"] S__law_fraction) : Ok P w K mg base 3 "_law_plus" s__law_plus ["_law_one", "_law_other"] S__law_plus := by
  obtain ⟨f_s, fd_s, F_s, g_s⟩ := h__law_plus
  obtain ⟨f__law_fraction, fd__law_fraction, F__law_fraction, g__law_fraction, b__law_fraction, G__law_fraction⟩ := k__law_fraction
  refine ⟨f_s, fd_s, F_s, g_s, F_s.binds (fun _ _ _ _ _ _ us hl => match us, hl with | [_, _], _ => rfl), FnG.of F_s sc__law_plus (fun xs μ Q h => by first | exact h.1 | exact h.2.1 | (obtain ⟨⟩ := h)) fun cdv A outer s H hr hgd => ⟨_, _, (pss_one (ps_ret (pe_callG (G__law_fraction.mono (by decide)) hr hgd (by rfl) g__law_fraction F__law_fraction.kp b__law_fraction (pa_cons (pe_op op_plus (pe_op op_times (pe_ix ix_seq (pv 0) pe_int (fun _ _ => rfl)) (pe_ix ix_seq (pv 1) pe_int (fun _ _ => rfl))) (pe_op op_times (pe_ix ix_seq (pv 1) pe_int (fun _ _ => rfl)) (pe_ix ix_seq (pv 0) pe_int (fun _ _ => rfl)))) (pa_cons (pe_op op_times (pe_ix ix_seq (pv 0) pe_int (fun _ _ => rfl)) (pe_ix ix_seq (pv 1) pe_int (fun _ _ => rfl))) pa_nil))))), (by (try dsimp only [cxOf]); exact inferInstance), ?_⟩⟩
  intro xs μ Q hS
  obtain ⟨_, p, q, rfl, hp, hq, hQ⟩ := hS
  rw [show startP N__law_plus [frP p, frP q] = [some (frP p), some (frP q)] from rfl]
  obtain ⟨m1, m2, m3, m4⟩ := fr_mul hp hq
  obtain ⟨n1, n2, n3, n4⟩ := fr_mul hq hp
  simp only [mBits, mEnumC, pSortX, mDNewT, mZipM, mDc, mLenSetL, mDGetT, mDGet2T, mDInT, mDPutT, mLockX, mLockEX, mKeysX, pLstX, pLenX, pMaxT, pSortT, str_to, str_ot, mPar3, mLockV, mLockE, mItemsC, mKeysC, mDGet2, pIsN, isNonP, pRepLM, mTruD, dkOfP, pPopAt, pIndex, mLstRgM, mTruth, pReprA, pLenD, pLstD, mDNew, pRepL, mLenSetN, mDIn, mSortSet, mSortSetL, mRevT, mForC, mSeqC, mLcC, pAbs, pMax2, pMin2, pInt1, mDGet, mDPut, mBM, mBM0, pPop, pAppend, pExtend, pSetL, mSub, mDisp, mPs, mPs0, mRevL, mRevLM, pLstOfM, mTupRg, mRg1, mRg2, pPlusM, lstItems, dictOfP, keyP, keysP, val_left, val_mixed, val_draws, put_draws, mLc, mLcM, mLc2, mFor, mSeqI, mRng1, mRng2, mZip, mEnum, mSl, mNoPart, mPart, mSeq, mAsg, mAsg2, mCB, mCons, mNil, mVar, mC, mOp, mUn, pU, mTup, mLst, mRet, mRetN, mLstM, getl, setl, mName, mCall, mCallK, mIf, mIfS, mTest, mAnd, mOr, mNot, mYes, mAndV, mOrV, mNotV, mNext, mNever, mBreak, mCont, mDrop, mChain, mPar, mGTup, mGCons, mGNil, pGcd, pI, pI0, pIx, pTimes, pPlus, pEq, pNe, pLen, pSum, pMaxS, pAll, pAny, pTupOf, pLstOf, pIn, pIsB, pIsi, items_tup, items_lst, items_kl, items_mr, items_tab, items_lot, items_fr, decide_true, decide_false, eqP_int, eqP_bl, eqP_str, eqP_tup2, kit_tt, kit_ii, kit_ib, tyP, mEnd, wipeP, List.map_cons, List.map_nil, List.getElem?_cons_zero, List.getElem?_cons_succ, List.set_cons_zero, List.set_cons_succ, atI_zero, atI_one, if_true, if_false, ite_true, ite_false, Bool.false_eq_true, List.length_cons, List.length_nil, Bool.not_true, Bool.not_false, frP, S__law_fraction]
  refine ⟨m2, n2, m4, trivial, _, _, rfl, Int.mul_pos (den_pos p) (den_pos q), ?_, ?_⟩
  · exact Nat.lt_of_lt_of_le (natAbs_mul_lt (x := (p.den : Int)) (y := (q.den : Int)) (by simpa using hp.2) (by simpa using hq.2)) (Nat.pow_le_pow_right (by decide) (by decide))
  · rw [← add_eq]
    exact fin_keep hQ
abbrev N__law_minus : List Str := ["_law_one", "_law_other"]
theorem sc__law_minus : FnScope N__law_minus ["_law_one", "_law_other"] (defScope s__law_minus) := ⟨rfl, rfl, rfl, by decide +kernel, rfl, by decide +kernel, by decide +kernel⟩
theorem ok__law_minus (B : Blt mg) (h__law_minus : Own K mg "_law_minus" s__law_minus) (k__law_fraction : Ok P w K mg base 2 "_law_fraction" s__law_fraction ["_law_top", "_law_bottom"] S__law_fraction) : Ok P w K mg base 3 "_law_minus" s__law_minus ["_law_one", "_law_other"] S__law_minus := by
  obtain ⟨f_s, fd_s, F_s, g_s⟩ := h__law_minus
  obtain ⟨f__law_fraction, fd__law_fraction, F__law_fraction, g__law_fraction, b__law_fraction, G__law_fraction⟩ := k__law_fraction
  refine ⟨f_s, fd_s, F_s, g_s, F_s.binds (fun _ _ _ _ _ _ us hl => match us, hl with | [_, _], _ => rfl), FnG.of F_s sc__law_minus (fun xs μ Q h => by first | exact h.1 | exact h.2.1 | (obtain ⟨⟩ := h)) fun cdv A outer s H hr hgd => ⟨_, _, (pss_one (ps_ret (pe_callG (G__law_fraction.mono (by decide)) hr hgd (by rfl) g__law_fraction F__law_fraction.kp b__law_fraction (pa_cons (pe_op op_sub (pe_op op_times (pe_ix ix_seq (pv 0) pe_int (fun _ _ => rfl)) (pe_ix ix_seq (pv 1) pe_int (fun _ _ => rfl))) (pe_op op_times (pe_ix ix_seq (pv 1) pe_int (fun _ _ => rfl)) (pe_ix ix_seq (pv 0) pe_int (fun _ _ => rfl)))) (pa_cons (pe_op op_times (pe_ix ix_seq (pv 0) pe_int (fun _ _ => rfl)) (pe_ix ix_seq (pv 1) pe_int (fun _ _ => rfl))) pa_nil))))), (by (try dsimp only [cxOf]); exact inferInstance), ?_⟩⟩
  intro xs μ Q hS
  obtain ⟨_, p, q, rfl, hp, hq, hQ⟩ := hS
  rw [show startP N__law_minus [frP p, frP q] = [some (frP p), some (frP q)] from rfl]
  obtain ⟨m1, m2, m3, m4⟩ := fr_mul hp hq
  obtain ⟨n1, n2, n3, n4⟩ := fr_mul hq hp
  simp only [mBits, mEnumC, pSortX, mDNewT, mZipM, mDc, mLenSetL, mDGetT, mDGet2T, mDInT, mDPutT, mLockX, mLockEX, mKeysX, pLstX, pLenX, pMaxT, pSortT, str_to, str_ot, mPar3, mLockV, mLockE, mItemsC, mKeysC, mDGet2, pIsN, isNonP, pRepLM, mTruD, dkOfP, pPopAt, pIndex, mLstRgM, mTruth, pReprA, pLenD, pLstD, mDNew, pRepL, mLenSetN, mDIn, mSortSet, mSortSetL, mRevT, mForC, mSeqC, mLcC, pAbs, pMax2, pMin2, pInt1, mDGet, mDPut, mBM, mBM0, pPop, pAppend, pExtend, pSetL, mSub, mDisp, mPs, mPs0, mRevL, mRevLM, pLstOfM, mTupRg, mRg1, mRg2, pPlusM, lstItems, dictOfP, keyP, keysP, val_left, val_mixed, val_draws, put_draws, mLc, mLcM, mLc2, mFor, mSeqI, mRng1, mRng2, mZip, mEnum, mSl, mNoPart, mPart, mSeq, mAsg, mAsg2, mCB, mCons, mNil, mVar, mC, mOp, mUn, pU, mTup, mLst, mRet, mRetN, mLstM, getl, setl, mName, mCall, mCallK, mIf, mIfS, mTest, mAnd, mOr, mNot, mYes, mAndV, mOrV, mNotV, mNext, mNever, mBreak, mCont, mDrop, mChain, mPar, mGTup, mGCons, mGNil, pGcd, pI, pI0, pIx, pTimes, pPlus, pEq, pNe, pLen, pSum, pMaxS, pAll, pAny, pTupOf, pLstOf, pIn, pIsB, pIsi, items_tup, items_lst, items_kl, items_mr, items_tab, items_lot, items_fr, decide_true, decide_false, eqP_int, eqP_bl, eqP_str, eqP_tup2, kit_tt, kit_ii, kit_ib, tyP, mEnd, wipeP, List.map_cons, List.map_nil, List.getElem?_cons_zero, List.getElem?_cons_succ, List.set_cons_zero, List.set_cons_succ, atI_zero, atI_one, if_true, if_false, ite_true, ite_false, Bool.false_eq_true, List.length_cons, List.length_nil, Bool.not_true, Bool.not_false, frP, S__law_fraction]
  refine ⟨m2, n2, m4, trivial, _, _, rfl, Int.mul_pos (den_pos p) (den_pos q), ?_, ?_⟩
  · exact Nat.lt_of_lt_of_le (natAbs_mul_lt (x := (p.den : Int)) (y := (q.den : Int)) (by simpa using hp.2) (by simpa using hq.2)) (Nat.pow_le_pow_right (by decide) (by decide))
  · rw [← sub_eq]
    exact fin_keep hQ
abbrev N__law_whole_parts : List Str := ["_law_table_here", "_law_t", "_law_found", "_law_top", "_law_bottom", "_law_parts"]
theorem sc__law_whole_parts : FnScope N__law_whole_parts ["_law_table_here", "_law_t"] (defScope s__law_whole_parts) := ⟨rfl, rfl, rfl, by decide +kernel, rfl, by decide +kernel, by decide +kernel⟩
theorem ok__law_whole_parts (B : Blt mg) (h__law_whole_parts : Own K mg "_law_whole_parts" s__law_whole_parts) (k__law_fraction : Ok P w K mg base 2 "_law_fraction" s__law_fraction ["_law_top", "_law_bottom"] S__law_fraction) : Ok P w K mg base 3 "_law_whole_parts" s__law_whole_parts ["_law_table_here", "_law_t"] S__law_whole_parts := by
  obtain ⟨f_s, fd_s, F_s, g_s⟩ := h__law_whole_parts
  obtain ⟨f__law_fraction, fd__law_fraction, F__law_fraction, g__law_fraction, b__law_fraction, G__law_fraction⟩ := k__law_fraction
  refine ⟨f_s, fd_s, F_s, g_s, F_s.binds (fun _ _ _ _ _ _ us hl => match us, hl with | [_, _], _ => rfl), FnG.of F_s sc__law_whole_parts (fun xs μ Q h => by first | exact h.1 | exact h.2.1 | (obtain ⟨⟩ := h)) fun cdv A outer s H hr hgd => ⟨_, _, (pss_cons (ps_set (i := 2) sc__law_whole_parts.nd rfl (Or.inl rfl) (peLM (pe_lst pa_nil)))
 (pss_cons (ps_for PassesOwn.never rfl (pi_seq (pv 0)) (pg_tup (n := 2) rfl (pgs_cons (pg_name (i := 3) sc__law_whole_parts.nd rfl (Or.inl rfl)) (pgs_cons (pg_name (i := 4) sc__law_whole_parts.nd rfl (Or.inl rfl)) pgs_nil)))
 (pss_cons (ps_set (i := 5) sc__law_whole_parts.nd rfl (Or.inl rfl) (pe_op op_divX (pe_op op_shlW (pv 3) (pv 1)) (pv 4)))
 (pss_one (ps_expr (pe_bm PySem.F.plainAttrs_list PySem.F.slot_list_append PySem.F.type_list_append mt_append (pv 2) (pa_cons (pe_tup (pa_cons (pv 5) (pa_cons (pe_callG (G__law_fraction.mono (by decide)) hr hgd (by rfl) g__law_fraction F__law_fraction.kp b__law_fraction (pa_cons (pe_op op_sub (pe_op op_shlW (pv 3) (pv 1)) (pe_op op_times (pv 5) (pv 4))) (pa_cons (pv 4) pa_nil))) pa_nil))) pa_nil))))))
 (pss_one (ps_ret (pv 2))))), (by (try dsimp only [cxOf]); exact inferInstance), ?_⟩⟩
  intro xs μ Q hS
  obtain ⟨_, qs, t, rfl, hT, ht, hQ⟩ := hS
  rw [show startP N__law_whole_parts [tabP qs, .int t] = [some (tabP qs), some (.int t), none, none, none, none] from rfl]
  have h8 := hT.len
  have hd44 : ∀ q ∈ qs, q.den < 2 ^ 44 := fun q hq => by
    obtain ⟨D, d0, d1, d2⟩ := hT.com
    exact Nat.lt_of_le_of_lt (Nat.le_of_dvd d0 (cm_den (d2 q hq))) d1
  have hnum : ∀ q ∈ qs, q.num.natAbs < 2 ^ 45 := fun q hq => (hT.sm hq).1
  refine stm_of fun R hR => ?_
  simp only [mBits, mEnumC, pSortX, mDNewT, mZipM, mDc, mLenSetL, mDGetT, mDGet2T, mDInT, mDPutT, mLockX, mLockEX, mKeysX, pLstX, pLenX, pMaxT, pSortT, str_to, str_ot, mPar3, mLockV, mLockE, mItemsC, mKeysC, mDGet2, pIsN, isNonP, pRepLM, mTruD, dkOfP, pPopAt, pIndex, mLstRgM, mTruth, pReprA, pLenD, pLstD, mDNew, pRepL, mLenSetN, mDIn, mSortSet, mSortSetL, mRevT, mForC, mSeqC, mLcC, pAbs, pMax2, pMin2, pInt1, mDGet, mDPut, mBM, mBM0, pPop, pAppend, pExtend, pSetL, mSub, mDisp, mPs, mPs0, mRevL, mRevLM, pLstOfM, mTupRg, mRg1, mRg2, pPlusM, lstItems, dictOfP, keyP, keysP, val_left, val_mixed, val_draws, put_draws, mLc, mLcM, mLc2, mFor, mSeqI, mRng1, mRng2, mZip, mEnum, mSl, mNoPart, mPart, mSeq, mAsg, mAsg2, mCB, mCons, mNil, mVar, mC, mOp, mUn, pU, mTup, mLst, mRet, mRetN, mLstM, getl, setl, mName, mCall, mCallK, mIf, mIfS, mTest, mAnd, mOr, mNot, mYes, mAndV, mOrV, mNotV, mNext, mNever, mBreak, mCont, mDrop, mChain, mPar, mGTup, mGCons, mGNil, pGcd, pI, pI0, pIx, pTimes, pPlus, pEq, pNe, pLen, pSum, pMaxS, pAll, pAny, pTupOf, pLstOf, pIn, pIsB, pIsi, items_tup, items_lst, items_kl, items_mr, items_tab, items_lot, items_fr, decide_true, decide_false, eqP_int, eqP_bl, eqP_str, eqP_tup2, kit_tt, kit_ii, kit_ib, tyP, mEnd, wipeP, List.map_cons, List.map_nil, List.getElem?_cons_zero, List.getElem?_cons_succ, List.set_cons_zero, List.set_cons_succ, atI_zero, atI_one, if_true, if_false, ite_true, ite_false, Bool.false_eq_true, List.length_cons, List.length_nil, Bool.not_true, Bool.not_false]
  refine ⟨by decide, ?_⟩
  subst hR
  refine stm_of fun R1 hR1 => ?_
  simp only [mBits, mEnumC, pSortX, mDNewT, mZipM, mDc, mLenSetL, mDGetT, mDGet2T, mDInT, mDPutT, mLockX, mLockEX, mKeysX, pLstX, pLenX, pMaxT, pSortT, str_to, str_ot, mPar3, mLockV, mLockE, mItemsC, mKeysC, mDGet2, pIsN, isNonP, pRepLM, mTruD, dkOfP, pPopAt, pIndex, mLstRgM, mTruth, pReprA, pLenD, pLstD, mDNew, pRepL, mLenSetN, mDIn, mSortSet, mSortSetL, mRevT, mForC, mSeqC, mLcC, pAbs, pMax2, pMin2, pInt1, mDGet, mDPut, mBM, mBM0, pPop, pAppend, pExtend, pSetL, mSub, mDisp, mPs, mPs0, mRevL, mRevLM, pLstOfM, mTupRg, mRg1, mRg2, pPlusM, lstItems, dictOfP, keyP, keysP, val_left, val_mixed, val_draws, put_draws, mLc, mLcM, mLc2, mFor, mSeqI, mRng1, mRng2, mZip, mEnum, mSl, mNoPart, mPart, mAsg, mAsg2, mCB, mCons, mNil, mVar, mC, mOp, mUn, pU, mTup, mLst, mRet, mRetN, mLstM, getl, setl, mName, mCall, mCallK, mIf, mIfS, mTest, mAnd, mOr, mNot, mYes, mAndV, mOrV, mNotV, mNext, mNever, mBreak, mCont, mDrop, mChain, mPar, mGTup, mGCons, mGNil, pGcd, pI, pI0, pIx, pTimes, pPlus, pEq, pNe, pLen, pSum, pMaxS, pAll, pAny, pTupOf, pLstOf, pIn, pIsB, pIsi, items_tup, items_lst, items_kl, items_mr, items_tab, items_lot, items_fr, decide_true, decide_false, eqP_int, eqP_bl, eqP_str, eqP_tup2, kit_tt, kit_ii, kit_ib, tyP, mEnd, wipeP, List.map_cons, List.map_nil, List.getElem?_cons_zero, List.getElem?_cons_succ, List.set_cons_zero, List.set_cons_succ, atI_zero, atI_one, if_true, if_false, ite_true, ite_false, Bool.false_eq_true, List.length_cons, List.length_nil, Bool.not_true, Bool.not_false, tabP]
  refine for_inv (enc := frP) (fun pre ρ μ' => (∃ y3 y4 y5 : Option PV, ρ = [some (.tup (qs.map frP)), some (.int (t : Nat)), some (.mr μ.length), y3, y4, y5]) ∧ μ' = μ ++ [.lst (pre.map (wpP t))]) (done := []) ⟨⟨_, _, _, rfl⟩, rfl⟩ (fun pre q post ρ μ' e hI N hN => ?_) fun ρ μ' hI => ?_
  · obtain ⟨⟨y3, y4, y5, rfl⟩, rfl⟩ := hI
    have e' : qs = pre ++ q :: post := e
    have hq : q ∈ qs := by rw [e']; simp
    have hpl : pre.length ≤ 8 := by rw [e', List.length_append] at h8; omega
    have hdq := hd44 q hq
    have hnq := hnum q hq
    simp only [mBits, mEnumC, pSortX, mDNewT, mZipM, mDc, mLenSetL, mDGetT, mDGet2T, mDInT, mDPutT, mLockX, mLockEX, mKeysX, pLstX, pLenX, pMaxT, pSortT, str_to, str_ot, mPar3, mLockV, mLockE, mItemsC, mKeysC, mDGet2, pIsN, isNonP, pRepLM, mTruD, dkOfP, pPopAt, pIndex, mLstRgM, mTruth, pReprA, pLenD, pLstD, mDNew, pRepL, mLenSetN, mDIn, mSortSet, mSortSetL, mRevT, mForC, mSeqC, mLcC, pAbs, pMax2, pMin2, pInt1, mDGet, mDPut, mBM, mBM0, pPop, pAppend, pExtend, pSetL, mSub, mDisp, mPs, mPs0, mRevL, mRevLM, pLstOfM, mTupRg, mRg1, mRg2, pPlusM, lstItems, dictOfP, keyP, keysP, val_left, val_mixed, val_draws, put_draws, mLc, mLcM, mLc2, mFor, mSeqI, mRng1, mRng2, mZip, mEnum, mSl, mNoPart, mPart, mAsg, mAsg2, mCB, mCons, mNil, mVar, mC, mOp, mUn, pU, mTup, mLst, mRet, mRetN, mLstM, getl, setl, mName, mCall, mCallK, mIf, mIfS, mTest, mAnd, mOr, mNot, mYes, mAndV, mOrV, mNotV, mNext, mNever, mBreak, mCont, mDrop, mChain, mPar, mGTup, mGCons, mGNil, pGcd, pI, pI0, pIx, pTimes, pPlus, pEq, pNe, pLen, pSum, pMaxS, pAll, pAny, pTupOf, pLstOf, pIn, pIsB, pIsi, items_tup, items_lst, items_kl, items_mr, items_tab, items_lot, items_fr, decide_true, decide_false, eqP_int, eqP_bl, eqP_str, eqP_tup2, kit_tt, kit_ii, kit_ib, tyP, mEnd, wipeP, List.map_cons, List.map_nil, List.getElem?_cons_zero, List.getElem?_cons_succ, List.set_cons_zero, List.set_cons_succ, atI_zero, atI_one, if_true, if_false, ite_true, ite_false, Bool.false_eq_true, List.length_cons, List.length_nil, Bool.not_true, Bool.not_false, frP]
    refine ⟨trivial, ?_⟩
    refine stm_of fun R2 hR2 => ?_
    simp only [mBits, mEnumC, pSortX, mDNewT, mZipM, mDc, mLenSetL, mDGetT, mDGet2T, mDInT, mDPutT, mLockX, mLockEX, mKeysX, pLstX, pLenX, pMaxT, pSortT, str_to, str_ot, mPar3, mLockV, mLockE, mItemsC, mKeysC, mDGet2, pIsN, isNonP, pRepLM, mTruD, dkOfP, pPopAt, pIndex, mLstRgM, mTruth, pReprA, pLenD, pLstD, mDNew, pRepL, mLenSetN, mDIn, mSortSet, mSortSetL, mRevT, mForC, mSeqC, mLcC, pAbs, pMax2, pMin2, pInt1, mDGet, mDPut, mBM, mBM0, pPop, pAppend, pExtend, pSetL, mSub, mDisp, mPs, mPs0, mRevL, mRevLM, pLstOfM, mTupRg, mRg1, mRg2, pPlusM, lstItems, dictOfP, keyP, keysP, val_left, val_mixed, val_draws, put_draws, mLc, mLcM, mLc2, mFor, mSeqI, mRng1, mRng2, mZip, mEnum, mSl, mNoPart, mPart, mSeq, mAsg, mAsg2, mCB, mCons, mNil, mVar, mC, mOp, mUn, pU, mTup, mLst, mRet, mRetN, mLstM, getl, setl, mName, mCall, mCallK, mIf, mIfS, mTest, mAnd, mOr, mNot, mYes, mAndV, mOrV, mNotV, mNext, mNever, mBreak, mCont, mDrop, mChain, mPar, mGTup, mGCons, mGNil, pGcd, pI, pI0, pIx, pTimes, pPlus, pEq, pNe, pLen, pSum, pMaxS, pAll, pAny, pTupOf, pLstOf, pIn, pIsB, pIsi, items_tup, items_lst, items_kl, items_mr, items_tab, items_lot, items_fr, decide_true, decide_false, eqP_int, eqP_bl, eqP_str, eqP_tup2, kit_tt, kit_ii, kit_ib, tyP, mEnd, wipeP, List.map_cons, List.map_nil, List.getElem?_cons_zero, List.getElem?_cons_succ, List.set_cons_zero, List.set_cons_succ, atI_zero, atI_one, if_true, if_false, ite_true, ite_false, Bool.false_eq_true, List.length_cons, List.length_nil, Bool.not_true, Bool.not_false]
    rw [flr_shl]
    refine ⟨shl_ok hnq (by omega), divN _ q.den_pos hdq, ?_⟩
    subst hR2
    simp only [mBits, mEnumC, pSortX, mDNewT, mZipM, mDc, mLenSetL, mDGetT, mDGet2T, mDInT, mDPutT, mLockX, mLockEX, mKeysX, pLstX, pLenX, pMaxT, pSortT, str_to, str_ot, mPar3, mLockV, mLockE, mItemsC, mKeysC, mDGet2, pIsN, isNonP, pRepLM, mTruD, dkOfP, pPopAt, pIndex, mLstRgM, mTruth, pReprA, pLenD, pLstD, mDNew, pRepL, mLenSetN, mDIn, mSortSet, mSortSetL, mRevT, mForC, mSeqC, mLcC, pAbs, pMax2, pMin2, pInt1, mDGet, mDPut, mBM, mBM0, pPop, pAppend, pExtend, pSetL, mSub, mDisp, mPs, mPs0, mRevL, mRevLM, pLstOfM, mTupRg, mRg1, mRg2, pPlusM, lstItems, dictOfP, keyP, keysP, val_left, val_mixed, val_draws, put_draws, mLc, mLcM, mLc2, mFor, mSeqI, mRng1, mRng2, mZip, mEnum, mSl, mNoPart, mPart, mSeq, mAsg, mAsg2, mCB, mCons, mNil, mVar, mC, mOp, mUn, pU, mTup, mLst, mRet, mRetN, mLstM, getl, setl, mName, mCall, mCallK, mIf, mIfS, mTest, mAnd, mOr, mNot, mYes, mAndV, mOrV, mNotV, mNext, mNever, mBreak, mCont, mDrop, mChain, mPar, mGTup, mGCons, mGNil, pGcd, pI, pI0, pIx, pTimes, pPlus, pEq, pNe, pLen, pSum, pMaxS, pAll, pAny, pTupOf, pLstOf, pIn, pIsB, pIsi, items_tup, items_lst, items_kl, items_mr, items_tab, items_lot, items_fr, decide_true, decide_false, eqP_int, eqP_bl, eqP_str, eqP_tup2, kit_tt, kit_ii, kit_ib, tyP, mEnd, wipeP, List.map_cons, List.map_nil, List.getElem?_cons_zero, List.getElem?_cons_succ, List.set_cons_zero, List.set_cons_succ, atI_zero, atI_one, if_true, if_false, ite_true, ite_false, Bool.false_eq_true, List.length_cons, List.length_nil, Bool.not_true, Bool.not_false, S__law_fraction]
    have hfl := flr_abs (hT.pos q hq) (hT.le1 hq) t
    have hpt : 2 ^ t ≤ 2 ^ 40 := Nat.pow_le_pow_right (by decide) ht
    have z1 : (2 : Nat) ^ 44 < 2 ^ 8900 := Nat.pow_lt_pow_right (by decide) (by decide)
    have z2 : (2 : Nat) ^ 40 < 2 ^ 41 := by decide
    refine ⟨shl_ok hnq (by omega), mulOk (m := 41) (n := 44) (by omega) (by rw [Int.natAbs_natCast]; exact hdq) (by decide), trivial, _, _, rfl, by have := q.den_pos; omega, by rw [Int.natAbs_natCast]; omega, by decide, by rw [List.length_map]; unfold lim; omega, ?_⟩
    rw [rsd_frac]
    refine hN _ _ ⟨⟨_, _, _, rfl⟩, ?_⟩
    rw [List.map_append]
    rfl
  · obtain ⟨⟨y3, y4, y5, rfl⟩, rfl⟩ := hI
    rw [List.nil_append]
    show R1 _ _
    subst hR1
    simp only [mBits, mEnumC, pSortX, mDNewT, mZipM, mDc, mLenSetL, mDGetT, mDGet2T, mDInT, mDPutT, mLockX, mLockEX, mKeysX, pLstX, pLenX, pMaxT, pSortT, str_to, str_ot, mPar3, mLockV, mLockE, mItemsC, mKeysC, mDGet2, pIsN, isNonP, pRepLM, mTruD, dkOfP, pPopAt, pIndex, mLstRgM, mTruth, pReprA, pLenD, pLstD, mDNew, pRepL, mLenSetN, mDIn, mSortSet, mSortSetL, mRevT, mForC, mSeqC, mLcC, pAbs, pMax2, pMin2, pInt1, mDGet, mDPut, mBM, mBM0, pPop, pAppend, pExtend, pSetL, mSub, mDisp, mPs, mPs0, mRevL, mRevLM, pLstOfM, mTupRg, mRg1, mRg2, pPlusM, lstItems, dictOfP, keyP, keysP, val_left, val_mixed, val_draws, put_draws, mLc, mLcM, mLc2, mFor, mSeqI, mRng1, mRng2, mZip, mEnum, mSl, mNoPart, mPart, mSeq, mAsg, mAsg2, mCB, mCons, mNil, mVar, mC, mOp, mUn, pU, mTup, mLst, mRet, mRetN, mLstM, getl, setl, mName, mCall, mCallK, mIf, mIfS, mTest, mAnd, mOr, mNot, mYes, mAndV, mOrV, mNotV, mNext, mNever, mBreak, mCont, mDrop, mChain, mPar, mGTup, mGCons, mGNil, pGcd, pI, pI0, pIx, pTimes, pPlus, pEq, pNe, pLen, pSum, pMaxS, pAll, pAny, pTupOf, pLstOf, pIn, pIsB, pIsi, items_tup, items_lst, items_kl, items_mr, items_tab, items_lot, items_fr, decide_true, decide_false, eqP_int, eqP_bl, eqP_str, eqP_tup2, kit_tt, kit_ii, kit_ib, tyP, mEnd, wipeP, List.map_cons, List.map_nil, List.getElem?_cons_zero, List.getElem?_cons_succ, List.set_cons_zero, List.set_cons_succ, atI_zero, atI_one, if_true, if_false, ite_true, ite_false, Bool.false_eq_true, List.length_cons, List.length_nil, Bool.not_true, Bool.not_false]
    exact fin_froz (noRefs_wp t qs) hQ
abbrev N_is_amount : List Str := ["thing"]
theorem sc_is_amount : FnScope N_is_amount ["thing"] (defScope s_is_amount) := ⟨rfl, rfl, rfl, by decide +kernel, rfl, by decide +kernel, by decide +kernel⟩
theorem ok_is_amount (B : Blt mg) (h_is_amount : Own K mg "is_amount" s_is_amount) (k_is_fraction : Ok P w K mg base 2 "is_fraction" s_is_fraction ["thing"] S_is_fraction) : Ok P w K mg base 3 "is_amount" s_is_amount ["thing"] S_is_amount := by
  obtain ⟨f_s, fd_s, F_s, g_s⟩ := h_is_amount
  obtain ⟨f_is_fraction, fd_is_fraction, F_is_fraction, g_is_fraction, b_is_fraction, G_is_fraction⟩ := k_is_fraction
  refine ⟨f_s, fd_s, F_s, g_s, F_s.binds (fun _ _ _ _ _ _ us hl => match us, hl with | [_], _ => rfl), FnG.of F_s sc_is_amount (fun xs μ Q h => by first | exact h.1 | exact h.2.1 | (obtain ⟨⟩ := h)) fun cdv A outer s H hr hgd => ⟨_, _, (pss_one (ps_ret (pe_and (pe_callG (G_is_fraction.mono (by decide)) hr hgd (by rfl) g_is_fraction F_is_fraction.kp b_is_fraction (pa_cons (pv 0) pa_nil)) (pe_one (pe_cmpR op_ge (pe_ix ix_seq (pv 0) pe_int (fun _ _ => rfl)) pe_int (nomark _)))))), (by (try dsimp only [cxOf]); exact inferInstance), ?_⟩⟩
  intro xs μ Q hS
  obtain ⟨_, q, rfl, h0, hQ⟩ := hS
  rw [show startP N_is_amount [frP q] = [some (frP q)] from rfl]
  have hn : 0 ≤ q.num := Rat.num_nonneg.mpr h0
  simp only [mBits, mEnumC, pSortX, mDNewT, mZipM, mDc, mLenSetL, mDGetT, mDGet2T, mDInT, mDPutT, mLockX, mLockEX, mKeysX, pLstX, pLenX, pMaxT, pSortT, str_to, str_ot, mPar3, mLockV, mLockE, mItemsC, mKeysC, mDGet2, pIsN, isNonP, pRepLM, mTruD, dkOfP, pPopAt, pIndex, mLstRgM, mTruth, pReprA, pLenD, pLstD, mDNew, pRepL, mLenSetN, mDIn, mSortSet, mSortSetL, mRevT, mForC, mSeqC, mLcC, pAbs, pMax2, pMin2, pInt1, mDGet, mDPut, mBM, mBM0, pPop, pAppend, pExtend, pSetL, mSub, mDisp, mPs, mPs0, mRevL, mRevLM, pLstOfM, mTupRg, mRg1, mRg2, pPlusM, lstItems, dictOfP, keyP, keysP, val_left, val_mixed, val_draws, put_draws, mLc, mLcM, mLc2, mFor, mSeqI, mRng1, mRng2, mZip, mEnum, mSl, mNoPart, mPart, mSeq, mAsg, mAsg2, mCB, mCons, mNil, mVar, mC, mOp, mUn, pU, mTup, mLst, mRet, mRetN, mLstM, getl, setl, mName, mCall, mCallK, mIf, mIfS, mTest, mAnd, mOr, mNot, mYes, mAndV, mOrV, mNotV, mNext, mNever, mBreak, mCont, mDrop, mChain, mPar, mGTup, mGCons, mGNil, pGcd, pI, pI0, pIx, pTimes, pPlus, pEq, pNe, pLen, pSum, pMaxS, pAll, pAny, pTupOf, pLstOf, pIn, pIsB, pIsi, items_tup, items_lst, items_kl, items_mr, items_tab, items_lot, items_fr, decide_true, decide_false, eqP_int, eqP_bl, eqP_str, eqP_tup2, kit_tt, kit_ii, kit_ib, tyP, mEnd, wipeP, List.map_cons, List.map_nil, List.getElem?_cons_zero, List.getElem?_cons_succ, List.set_cons_zero, List.set_cons_succ, atI_zero, atI_one, if_true, if_false, ite_true, ite_false, Bool.false_eq_true, List.length_cons, List.length_nil, Bool.not_true, Bool.not_false, S_is_fraction]
  refine ⟨trivial, q, rfl, ?_⟩
  have e2 : decide (0 ≤ q.num) = true := by simpa using hn
  rw [e2]
  exact fin_keep hQ
abbrev N_total : List Str := ["fractions", "found", "fraction"]
theorem sc_total : FnScope N_total ["fractions"] (defScope s_total) := ⟨rfl, rfl, rfl, by decide +kernel, rfl, by decide +kernel, by decide +kernel⟩
theorem ok_total (B : Blt mg) (h_total : Own K mg "total" s_total) (k_added : Ok P w K mg base 2 "added" s_added ["one", "other"] S_added) : Ok P w K mg base 3 "total" s_total ["fractions"] S_total := by
  obtain ⟨f_s, fd_s, F_s, g_s⟩ := h_total
  obtain ⟨f_added, fd_added, F_added, g_added, b_added, G_added⟩ := k_added
  refine ⟨f_s, fd_s, F_s, g_s, F_s.binds (fun _ _ _ _ _ _ us hl => match us, hl with | [_], _ => rfl), FnG.of F_s sc_total (fun xs μ Q h => by first | exact h.1 | exact h.2.1 | (obtain ⟨⟩ := h)) fun cdv A outer s H hr hgd => ⟨_, _, (pss_cons (ps_set (i := 1) sc_total.nd rfl (Or.inl rfl) (pe_tup (pa_cons pe_int (pa_cons pe_int pa_nil))))
 (pss_cons (ps_for PassesOwn.never rfl (pi_seq (pv 0)) (pg_name (i := 2) sc_total.nd rfl (Or.inl rfl))
 (pss_one (ps_set (i := 1) sc_total.nd rfl (Or.inl rfl) (pe_callG (G_added.mono (by decide)) hr hgd (by rfl) g_added F_added.kp b_added (pa_cons (pv 1) (pa_cons (pv 2) pa_nil))))))
 (pss_one (ps_ret (pv 1))))), (by (try dsimp only [cxOf]); exact inferInstance), ?_⟩⟩
  intro xs μ Q hS
  obtain ⟨_, x, qs, rfl, hx, hb, hQ⟩ := hS
  rw [show startP N_total [x] = [some x, none, none] from rfl]
  have key : mForL (mName 2) (mAsg (mCall S_added (mCons (mVar 1) (mCons (mVar 2) mNil))) (mName 1)) { nx := mRet (mVar 1) (mEnd μ Q), rt := fun x μ_1 => ∃ y μ', Gc μ x μ_1 y μ' ∧ Q y μ' } (qs.map frP) [some x, some (PV.tup [PV.int 0, PV.int 1]), none] μ := by
    refine for_inv (enc := frP) (fun pre ρ μ' => (∃ y, ρ = [some x, some (frP pre.sum), y]) ∧ μ' = μ) (done := []) ⟨⟨_, rfl⟩, rfl⟩ (fun pre a post ρ μ' e hI N hN => ?_) fun ρ μ' hI => ?_
    · obtain ⟨⟨y, rfl⟩, rfl⟩ := hI
      have e' : qs = pre ++ a :: post := e
      simp only [mBits, mEnumC, pSortX, mDNewT, mZipM, mDc, mLenSetL, mDGetT, mDGet2T, mDInT, mDPutT, mLockX, mLockEX, mKeysX, pLstX, pLenX, pMaxT, pSortT, str_to, str_ot, mPar3, mLockV, mLockE, mItemsC, mKeysC, mDGet2, pIsN, isNonP, pRepLM, mTruD, dkOfP, pPopAt, pIndex, mLstRgM, mTruth, pReprA, pLenD, pLstD, mDNew, pRepL, mLenSetN, mDIn, mSortSet, mSortSetL, mRevT, mForC, mSeqC, mLcC, pAbs, pMax2, pMin2, pInt1, mDGet, mDPut, mBM, mBM0, pPop, pAppend, pExtend, pSetL, mSub, mDisp, mPs, mPs0, mRevL, mRevLM, pLstOfM, mTupRg, mRg1, mRg2, pPlusM, lstItems, dictOfP, keyP, keysP, val_left, val_mixed, val_draws, put_draws, mLc, mLcM, mLc2, mFor, mSeqI, mRng1, mRng2, mZip, mEnum, mSl, mNoPart, mPart, mSeq, mAsg, mAsg2, mCB, mCons, mNil, mVar, mC, mOp, mUn, pU, mTup, mLst, mRet, mRetN, mLstM, getl, setl, mName, mCall, mCallK, mIf, mIfS, mTest, mAnd, mOr, mNot, mYes, mAndV, mOrV, mNotV, mNext, mNever, mBreak, mCont, mDrop, mChain, mPar, mGTup, mGCons, mGNil, pGcd, pI, pI0, pIx, pTimes, pPlus, pEq, pNe, pLen, pSum, pMaxS, pAll, pAny, pTupOf, pLstOf, pIn, pIsB, pIsi, items_tup, items_lst, items_kl, items_mr, items_tab, items_lot, items_fr, decide_true, decide_false, eqP_int, eqP_bl, eqP_str, eqP_tup2, kit_tt, kit_ii, kit_ib, tyP, mEnd, wipeP, List.map_cons, List.map_nil, List.getElem?_cons_zero, List.getElem?_cons_succ, List.set_cons_zero, List.set_cons_succ, atI_zero, atI_one, if_true, if_false, ite_true, ite_false, Bool.false_eq_true, List.length_cons, List.length_nil, Bool.not_true, Bool.not_false, S_added]
      refine ⟨trivial, _, _, rfl, (hb.sub (by rw [e']; exact List.sublist_append_left _ _)).sum_sm.mono (by decide), (hb.mem_sm (by rw [e']; simp)).mono (by decide), hN _ _ ⟨⟨some (frP a), ?_⟩, rfl⟩⟩
      rw [sum_append, List.sum_cons]
      show _ = [some x, some (frP (pre.sum + (a + 0))), some (frP a)]
      rw [Rat.add_zero]
    · obtain ⟨⟨y, rfl⟩, rfl⟩ := hI
      simp only [mBits, mEnumC, pSortX, mDNewT, mZipM, mDc, mLenSetL, mDGetT, mDGet2T, mDInT, mDPutT, mLockX, mLockEX, mKeysX, pLstX, pLenX, pMaxT, pSortT, str_to, str_ot, mPar3, mLockV, mLockE, mItemsC, mKeysC, mDGet2, pIsN, isNonP, pRepLM, mTruD, dkOfP, pPopAt, pIndex, mLstRgM, mTruth, pReprA, pLenD, pLstD, mDNew, pRepL, mLenSetN, mDIn, mSortSet, mSortSetL, mRevT, mForC, mSeqC, mLcC, pAbs, pMax2, pMin2, pInt1, mDGet, mDPut, mBM, mBM0, pPop, pAppend, pExtend, pSetL, mSub, mDisp, mPs, mPs0, mRevL, mRevLM, pLstOfM, mTupRg, mRg1, mRg2, pPlusM, lstItems, dictOfP, keyP, keysP, val_left, val_mixed, val_draws, put_draws, mLc, mLcM, mLc2, mFor, mSeqI, mRng1, mRng2, mZip, mEnum, mSl, mNoPart, mPart, mSeq, mAsg, mAsg2, mCB, mCons, mNil, mVar, mC, mOp, mUn, pU, mTup, mLst, mRet, mRetN, mLstM, getl, setl, mName, mCall, mCallK, mIf, mIfS, mTest, mAnd, mOr, mNot, mYes, mAndV, mOrV, mNotV, mNext, mNever, mBreak, mCont, mDrop, mChain, mPar, mGTup, mGCons, mGNil, pGcd, pI, pI0, pIx, pTimes, pPlus, pEq, pNe, pLen, pSum, pMaxS, pAll, pAny, pTupOf, pLstOf, pIn, pIsB, pIsi, items_tup, items_lst, items_kl, items_mr, items_tab, items_lot, items_fr, decide_true, decide_false, eqP_int, eqP_bl, eqP_str, eqP_tup2, kit_tt, kit_ii, kit_ib, tyP, mEnd, wipeP, List.map_cons, List.map_nil, List.getElem?_cons_zero, List.getElem?_cons_succ, List.set_cons_zero, List.set_cons_succ, atI_zero, atI_one, if_true, if_false, ite_true, ite_false, Bool.false_eq_true, List.length_cons, List.length_nil, Bool.not_true, Bool.not_false]
      exact fin_keep hQ
  cases x <;> simp only [seqP, reduceCtorEq, Option.some.injEq] at hx
  · subst hx
    simp only [mBits, mEnumC, pSortX, mDNewT, mZipM, mDc, mLenSetL, mDGetT, mDGet2T, mDInT, mDPutT, mLockX, mLockEX, mKeysX, pLstX, pLenX, pMaxT, pSortT, str_to, str_ot, mPar3, mLockV, mLockE, mItemsC, mKeysC, mDGet2, pIsN, isNonP, pRepLM, mTruD, dkOfP, pPopAt, pIndex, mLstRgM, mTruth, pReprA, pLenD, pLstD, mDNew, pRepL, mLenSetN, mDIn, mSortSet, mSortSetL, mRevT, mForC, mSeqC, mLcC, pAbs, pMax2, pMin2, pInt1, mDGet, mDPut, mBM, mBM0, pPop, pAppend, pExtend, pSetL, mSub, mDisp, mPs, mPs0, mRevL, mRevLM, pLstOfM, mTupRg, mRg1, mRg2, pPlusM, lstItems, dictOfP, keyP, keysP, val_left, val_mixed, val_draws, put_draws, mLc, mLcM, mLc2, mFor, mSeqI, mRng1, mRng2, mZip, mEnum, mSl, mNoPart, mPart, mSeq, mAsg, mAsg2, mCB, mCons, mNil, mVar, mC, mOp, mUn, pU, mTup, mLst, mRet, mRetN, mLstM, getl, setl, mName, mCall, mCallK, mIf, mIfS, mTest, mAnd, mOr, mNot, mYes, mAndV, mOrV, mNotV, mNext, mNever, mBreak, mCont, mDrop, mChain, mPar, mGTup, mGCons, mGNil, pGcd, pI, pI0, pIx, pTimes, pPlus, pEq, pNe, pLen, pSum, pMaxS, pAll, pAny, pTupOf, pLstOf, pIn, pIsB, pIsi, items_tup, items_lst, items_kl, items_mr, items_tab, items_lot, items_fr, decide_true, decide_false, eqP_int, eqP_bl, eqP_str, eqP_tup2, kit_tt, kit_ii, kit_ib, tyP, mEnd, wipeP, List.map_cons, List.map_nil, List.getElem?_cons_zero, List.getElem?_cons_succ, List.set_cons_zero, List.set_cons_succ, atI_zero, atI_one, if_true, if_false, ite_true, ite_false, Bool.false_eq_true, List.length_cons, List.length_nil, Bool.not_true, Bool.not_false]
    exact ⟨by decide, key⟩
  · subst hx
    simp only [mBits, mEnumC, pSortX, mDNewT, mZipM, mDc, mLenSetL, mDGetT, mDGet2T, mDInT, mDPutT, mLockX, mLockEX, mKeysX, pLstX, pLenX, pMaxT, pSortT, str_to, str_ot, mPar3, mLockV, mLockE, mItemsC, mKeysC, mDGet2, pIsN, isNonP, pRepLM, mTruD, dkOfP, pPopAt, pIndex, mLstRgM, mTruth, pReprA, pLenD, pLstD, mDNew, pRepL, mLenSetN, mDIn, mSortSet, mSortSetL, mRevT, mForC, mSeqC, mLcC, pAbs, pMax2, pMin2, pInt1, mDGet, mDPut, mBM, mBM0, pPop, pAppend, pExtend, pSetL, mSub, mDisp, mPs, mPs0, mRevL, mRevLM, pLstOfM, mTupRg, mRg1, mRg2, pPlusM, lstItems, dictOfP, keyP, keysP, val_left, val_mixed, val_draws, put_draws, mLc, mLcM, mLc2, mFor, mSeqI, mRng1, mRng2, mZip, mEnum, mSl, mNoPart, mPart, mSeq, mAsg, mAsg2, mCB, mCons, mNil, mVar, mC, mOp, mUn, pU, mTup, mLst, mRet, mRetN, mLstM, getl, setl, mName, mCall, mCallK, mIf, mIfS, mTest, mAnd, mOr, mNot, mYes, mAndV, mOrV, mNotV, mNext, mNever, mBreak, mCont, mDrop, mChain, mPar, mGTup, mGCons, mGNil, pGcd, pI, pI0, pIx, pTimes, pPlus, pEq, pNe, pLen, pSum, pMaxS, pAll, pAny, pTupOf, pLstOf, pIn, pIsB, pIsi, items_tup, items_lst, items_kl, items_mr, items_tab, items_lot, items_fr, decide_true, decide_false, eqP_int, eqP_bl, eqP_str, eqP_tup2, kit_tt, kit_ii, kit_ib, tyP, mEnd, wipeP, List.map_cons, List.map_nil, List.getElem?_cons_zero, List.getElem?_cons_succ, List.set_cons_zero, List.set_cons_succ, atI_zero, atI_one, if_true, if_false, ite_true, ite_false, Bool.false_eq_true, List.length_cons, List.length_nil, Bool.not_true, Bool.not_false]
    exact ⟨by decide, key⟩
abbrev N_check_number : List Str := ["k"]
theorem sc_check_number : FnScope N_check_number ["k"] (defScope s_check_number) := ⟨rfl, rfl, rfl, by decide +kernel, rfl, by decide +kernel, by decide +kernel⟩
theorem ok_check_number (B : Blt mg) (h_check_number : Own K mg "check_number" s_check_number) (k_is_number : Ok P w K mg base 2 "is_number" s_is_number ["thing"] S_is_number) : Ok P w K mg base 3 "check_number" s_check_number ["k"] S_check_number := by
  obtain ⟨f_s, fd_s, F_s, g_s⟩ := h_check_number
  obtain ⟨f_is_number, fd_is_number, F_is_number, g_is_number, b_is_number, G_is_number⟩ := k_is_number
  refine ⟨f_s, fd_s, F_s, g_s, F_s.binds (fun _ _ _ _ _ _ us hl => match us, hl with | [_], _ => rfl), FnG.of F_s sc_check_number (fun xs μ Q h => by first | exact h.1 | exact h.2.1 | (obtain ⟨⟩ := h)) fun cdv A outer s H hr hgd => ⟨_, _, (pss_one (ps_if (pt_not (pt_val (pe_callG (G_is_number.mono (by decide)) hr hgd (by rfl) g_is_number F_is_number.kp b_is_number (pa_cons (pv 0) pa_nil))))
 (pss_one ps_never)
 pss_nil)), (by (try dsimp only [cxOf]); exact inferInstance), ?_⟩⟩
  intro xs μ Q hS
  obtain ⟨_, i, rfl, h0, hQ⟩ := hS
  rw [show startP N_check_number [.int i] = [some (.int i)] from rfl]
  simp only [mBits, mEnumC, pSortX, mDNewT, mZipM, mDc, mLenSetL, mDGetT, mDGet2T, mDInT, mDPutT, mLockX, mLockEX, mKeysX, pLstX, pLenX, pMaxT, pSortT, str_to, str_ot, mPar3, mLockV, mLockE, mItemsC, mKeysC, mDGet2, pIsN, isNonP, pRepLM, mTruD, dkOfP, pPopAt, pIndex, mLstRgM, mTruth, pReprA, pLenD, pLstD, mDNew, pRepL, mLenSetN, mDIn, mSortSet, mSortSetL, mRevT, mForC, mSeqC, mLcC, pAbs, pMax2, pMin2, pInt1, mDGet, mDPut, mBM, mBM0, pPop, pAppend, pExtend, pSetL, mSub, mDisp, mPs, mPs0, mRevL, mRevLM, pLstOfM, mTupRg, mRg1, mRg2, pPlusM, lstItems, dictOfP, keyP, keysP, val_left, val_mixed, val_draws, put_draws, mLc, mLcM, mLc2, mFor, mSeqI, mRng1, mRng2, mZip, mEnum, mSl, mNoPart, mPart, mSeq, mAsg, mAsg2, mCB, mCons, mNil, mVar, mC, mOp, mUn, pU, mTup, mLst, mRet, mRetN, mLstM, getl, setl, mName, mCall, mCallK, mIf, mIfS, mTest, mAnd, mOr, mNot, mYes, mAndV, mOrV, mNotV, mNext, mNever, mBreak, mCont, mDrop, mChain, mPar, mGTup, mGCons, mGNil, pGcd, pI, pI0, pIx, pTimes, pPlus, pEq, pNe, pLen, pSum, pMaxS, pAll, pAny, pTupOf, pLstOf, pIn, pIsB, pIsi, items_tup, items_lst, items_kl, items_mr, items_tab, items_lot, items_fr, decide_true, decide_false, eqP_int, eqP_bl, eqP_str, eqP_tup2, kit_tt, kit_ii, kit_ib, tyP, mEnd, wipeP, List.map_cons, List.map_nil, List.getElem?_cons_zero, List.getElem?_cons_succ, List.set_cons_zero, List.set_cons_succ, atI_zero, atI_one, if_true, if_false, ite_true, ite_false, Bool.false_eq_true, List.length_cons, List.length_nil, Bool.not_true, Bool.not_false, S_is_number]
  refine ⟨trivial, i, rfl, ?_⟩
  rw [decide_eq_true h0]
  exact fin_keep hQ
abbrev N_nearest_to : List Str := ["table", "t", "parts", "rests", "_", "greatest", "i", "rest", "top", "bottom", "part"]
theorem sc_nearest_to : FnScope N_nearest_to ["table", "t"] (defScope s_nearest_to) := ⟨rfl, rfl, rfl, by decide +kernel, rfl, by decide +kernel, by decide +kernel⟩
theorem ok_nearest_to (B : Blt mg) (h_nearest_to : Own K mg "nearest_to" s_nearest_to) (k_is_within_bits : Ok P w K mg base 2 "is_within_bits" s_is_within_bits ["table", "t"] S_is_within_bits) (k_lowest : Ok P w K mg base 1 "lowest" s_lowest ["top", "bottom"] S_lowest) (k_is_above : Ok P w K mg base 1 "is_above" s_is_above ["one", "other"] S_is_above) : Ok P w K mg base 3 "nearest_to" s_nearest_to ["table", "t"] S_nearest_to := by
  obtain ⟨f_s, fd_s, F_s, g_s⟩ := h_nearest_to
  obtain ⟨f_is_within_bits, fd_is_within_bits, F_is_within_bits, g_is_within_bits, b_is_within_bits, G_is_within_bits⟩ := k_is_within_bits
  obtain ⟨f_lowest, fd_lowest, F_lowest, g_lowest, b_lowest, G_lowest⟩ := k_lowest
  obtain ⟨f_is_above, fd_is_above, F_is_above, g_is_above, b_is_above, G_is_above⟩ := k_is_above
  refine ⟨f_s, fd_s, F_s, g_s, F_s.binds (fun _ _ _ _ _ _ us hl => match us, hl with | [_, _], _ => rfl), FnG.of F_s sc_nearest_to (fun xs μ Q h => by first | exact h.1 | exact h.2.1 | (obtain ⟨⟩ := h)) fun cdv A outer s H hr hgd => ⟨_, _, (pss_cons (ps_if (pt_val (pe_callG (G_is_within_bits.mono (by decide)) hr hgd (by rfl) g_is_within_bits F_is_within_bits.kp b_is_within_bits (pa_cons (pv 0) (pa_cons (pv 1) pa_nil))))
 (pss_one (ps_ret (pv 0)))
 pss_nil)
 (pss_cons (psM (ps_setLc (i := 2) (own := [("top", 8), ("bottom", 9)]) rfl sc_nearest_to.nd rfl rfl (sw_true rfl rfl rfl (by decide +kernel)) (pi_seq (pv 0)) (blkOk_by (own := [("top", 8), ("bottom", 9)]) (N := N_nearest_to) (sc := defScope s_nearest_to) (by decide +kernel)) (fun _ _ _ _ _ => (pgk_tup K 2 rfl rfl (pgs_cons (pg_name (i := 8) sc_nearest_to.nd rfl (Or.inl rfl)) (pgs_cons (pg_name (i := 9) sc_nearest_to.nd rfl (Or.inl rfl)) pgs_nil)) rfl rfl)) (fun _ _ _ _ _ => pts_nil) (fun _ _ _ _ _ => (pe_op op_divX (pe_op op_shlW (pv 8) (pv 1)) (pv 9)))))
 (pss_cons (psM (ps_setLc (i := 3) (own := [("top", 8), ("bottom", 9)]) rfl sc_nearest_to.nd rfl rfl (sw_true rfl rfl rfl (by decide +kernel)) (pi_seq (pv 0)) (blkOk_by (own := [("top", 8), ("bottom", 9)]) (N := N_nearest_to) (sc := defScope s_nearest_to) (by decide +kernel)) (fun _ _ _ _ _ => (pgk_tup K 2 rfl rfl (pgs_cons (pg_name (i := 8) sc_nearest_to.nd rfl (Or.inl rfl)) (pgs_cons (pg_name (i := 9) sc_nearest_to.nd rfl (Or.inl rfl)) pgs_nil)) rfl rfl)) (fun _ _ _ _ _ => pts_nil) (fun _ _ _ _ _ => (pek_call K rfl (G_lowest.mono (by decide)) hr hgd (by rfl) g_lowest F_lowest.kp b_lowest (pa_cons (pe_op op_modX (pe_op op_shlW (pv 8) (pv 1)) (pv 9)) (pa_cons (pv 9) pa_nil))))))
 (pss_cons (ps_for PassesOwn.never rfl (pi_range1 (by rfl) (B "range" (by decide)) (pa_cons (pe_op op_sub (pe_op op_shlW pe_int (pv 1)) (pe_callB (cr_sum rfl) (by rfl) (B "sum" (by decide)) (by decide +kernel) (pa_cons (pv 2) pa_nil))) pa_nil)) (pg_name (i := 4) sc_nearest_to.nd rfl (Or.inl rfl))
 (pss_cons (ps_set (i := 5) sc_nearest_to.nd rfl (Or.inl rfl) pe_int)
 (pss_cons (ps_for PassesOwn.never rfl (pi_enumM (by rfl) (B "enumerate" (by decide)) (pa_cons (pv 3) pa_nil)) (pg_tup (n := 2) rfl (pgs_cons (pg_name (i := 6) sc_nearest_to.nd rfl (Or.inl rfl)) (pgs_cons (pg_name (i := 7) sc_nearest_to.nd rfl (Or.inl rfl)) pgs_nil)))
 (pss_one (ps_if (pt_val (pe_callG (G_is_above.mono (by decide)) hr hgd (by rfl) g_is_above F_is_above.kp b_is_above (pa_cons (pv 7) (pa_cons (pe_ix ix_seq (pv 3) (pv 5) (fun _ _ => rfl)) pa_nil))))
 (pss_one (ps_set (i := 5) sc_nearest_to.nd rfl (Or.inl rfl) (pv 6)))
 pss_nil)))
 (pss_cons (ps_asg (pe_op op_plus (pe_ix ix_seq (pv 2) (pv 5) (fun _ _ => rfl)) pe_int) (pg_sub (pv 2) (pv 5) set_list))
 (pss_one (ps_asg (pe_tup (pa_cons pe_int (pa_cons pe_int pa_nil))) (pg_sub (pv 3) (pv 5) set_list)))))))
 (pss_one (ps_ret (pe_callTy cb_tup (by rfl) (B "tuple" (by decide)) (by decide +kernel) (pa_cons (pe_lc (own := [("part", 10)]) (by rfl) sc_nearest_to.nd (pi_seqM (pv 2)) (blkOk_by (own := [("part", 10)]) (N := N_nearest_to) (sc := defScope s_nearest_to) (by decide +kernel)) (fun _ _ _ _ _ => (pg_name (i := 10) sc_nearest_to.nd rfl (Or.inl rfl))) (fun _ _ _ _ _ => pts_nil) (fun _ _ _ _ _ => (pek_call K rfl (G_lowest.mono (by decide)) hr hgd (by rfl) g_lowest F_lowest.kp b_lowest (pa_cons (pv 10) (pa_cons (pe_op op_shlW pe_int (pv 1)) pa_nil))))) pa_nil)))))))), (by (try dsimp only [cxOf]); exact inferInstance), ?_⟩⟩
  intro xs μ Q hS
  obtain ⟨_, qs, t, rfl, hT, ht, hQ⟩ := hS
  rw [show startP N_nearest_to [tabP qs, .int t] = [some (tabP qs), some (.int t), none, none, none, none, none, none, none, none, none] from rfl]
  have h8 := hT.len
  have hd44 : ∀ q ∈ qs, q.den < 2 ^ 44 := fun q hq => by
    obtain ⟨D, d0, d1, d2⟩ := hT.com
    exact Nat.lt_of_le_of_lt (Nat.le_of_dvd d0 (cm_den (d2 q hq))) d1
  have hnum : ∀ q ∈ qs, q.num.natAbs < 2 ^ 45 := fun q hq => (hT.sm hq).1
  refine stm_of fun R hR => ?_
  simp only [mBits, mEnumC, pSortX, mDNewT, mZipM, mDc, mLenSetL, mDGetT, mDGet2T, mDInT, mDPutT, mLockX, mLockEX, mKeysX, pLstX, pLenX, pMaxT, pSortT, str_to, str_ot, mPar3, mLockV, mLockE, mItemsC, mKeysC, mDGet2, pIsN, isNonP, pRepLM, mTruD, dkOfP, pPopAt, pIndex, mLstRgM, mTruth, pReprA, pLenD, pLstD, mDNew, pRepL, mLenSetN, mDIn, mSortSet, mSortSetL, mRevT, mForC, mSeqC, mLcC, pAbs, pMax2, pMin2, pInt1, mDGet, mDPut, mBM, mBM0, pPop, pAppend, pExtend, pSetL, mSub, mDisp, mPs, mPs0, mRevL, mRevLM, pLstOfM, mTupRg, mRg1, mRg2, pPlusM, lstItems, dictOfP, keyP, keysP, val_left, val_mixed, val_draws, put_draws, mLc, mLcM, mLc2, mFor, mSeqI, mRng1, mRng2, mZip, mEnum, mSl, mNoPart, mPart, mSeq, mAsg, mAsg2, mCB, mCons, mNil, mVar, mC, mOp, mUn, pU, mTup, mLst, mRet, mRetN, mLstM, getl, setl, mName, mCall, mCallK, mIf, mIfS, mTest, mAnd, mOr, mNot, mYes, mAndV, mOrV, mNotV, mNext, mNever, mBreak, mCont, mDrop, mChain, mPar, mGTup, mGCons, mGNil, pGcd, pI, pI0, pIx, pTimes, pPlus, pEq, pNe, pLen, pSum, pMaxS, pAll, pAny, pTupOf, pLstOf, pIn, pIsB, pIsi, items_tup, items_lst, items_kl, items_mr, items_tab, items_lot, items_fr, decide_true, decide_false, eqP_int, eqP_bl, eqP_str, eqP_tup2, kit_tt, kit_ii, kit_ib, tyP, mEnd, wipeP, List.map_cons, List.map_nil, List.getElem?_cons_zero, List.getElem?_cons_succ, List.set_cons_zero, List.set_cons_succ, atI_zero, atI_one, if_true, if_false, ite_true, ite_false, Bool.false_eq_true, List.length_cons, List.length_nil, Bool.not_true, Bool.not_false, S_is_within_bits]
  refine ⟨trivial, qs, t, rfl, h8, ?_⟩
  by_cases c : ∀ q ∈ qs, q.den ∣ 2 ^ t
  · rw [decide_eq_true c, if_pos rfl]
    exact fin_keep (hQ _ (near_self hT.one c))
  rw [decide_eq_false c, if_neg (by decide)]
  subst hR
  refine stm_of fun R hR => ?_
  simp only [mBits, mEnumC, pSortX, mDNewT, mZipM, mDc, mLenSetL, mDGetT, mDGet2T, mDInT, mDPutT, mLockX, mLockEX, mKeysX, pLstX, pLenX, pMaxT, pSortT, str_to, str_ot, mPar3, mLockV, mLockE, mItemsC, mKeysC, mDGet2, pIsN, isNonP, pRepLM, mTruD, dkOfP, pPopAt, pIndex, mLstRgM, mTruth, pReprA, pLenD, pLstD, mDNew, pRepL, mLenSetN, mDIn, mSortSet, mSortSetL, mRevT, mForC, mSeqC, mLcC, pAbs, pMax2, pMin2, pInt1, mDGet, mDPut, mBM, mBM0, pPop, pAppend, pExtend, pSetL, mSub, mDisp, mPs, mPs0, mRevL, mRevLM, pLstOfM, mTupRg, mRg1, mRg2, pPlusM, lstItems, dictOfP, keyP, keysP, val_left, val_mixed, val_draws, put_draws, mLc, mLcM, mLc2, mFor, mSeqI, mRng1, mRng2, mZip, mEnum, mSl, mNoPart, mPart, mSeq, mAsg, mAsg2, mCB, mCons, mNil, mVar, mC, mOp, mUn, pU, mTup, mLst, mRet, mRetN, mLstM, getl, setl, mName, mCall, mCallK, mIf, mIfS, mTest, mAnd, mOr, mNot, mYes, mAndV, mOrV, mNotV, mNext, mNever, mBreak, mCont, mDrop, mChain, mPar, mGTup, mGCons, mGNil, pGcd, pI, pI0, pIx, pTimes, pPlus, pEq, pNe, pLen, pSum, pMaxS, pAll, pAny, pTupOf, pLstOf, pIn, pIsB, pIsi, items_tup, items_lst, items_kl, items_mr, items_tab, items_lot, items_fr, decide_true, decide_false, eqP_int, eqP_bl, eqP_str, eqP_tup2, kit_tt, kit_ii, kit_ib, tyP, mEnd, wipeP, List.map_cons, List.map_nil, List.getElem?_cons_zero, List.getElem?_cons_succ, List.set_cons_zero, List.set_cons_succ, atI_zero, atI_one, if_true, if_false, ite_true, ite_false, Bool.false_eq_true, List.length_cons, List.length_nil, Bool.not_true, Bool.not_false, tabP]
  refine ⟨by decide, by rw [List.length_map]; unfold lim; omega, lc_map (enc := frP) (out := fun q => PV.int (flr q t)) (fun q hq kk hk => ?_) ?_⟩
  · simp only [mBits, mEnumC, pSortX, mDNewT, mZipM, mDc, mLenSetL, mDGetT, mDGet2T, mDInT, mDPutT, mLockX, mLockEX, mKeysX, pLstX, pLenX, pMaxT, pSortT, str_to, str_ot, mPar3, mLockV, mLockE, mItemsC, mKeysC, mDGet2, pIsN, isNonP, pRepLM, mTruD, dkOfP, pPopAt, pIndex, mLstRgM, mTruth, pReprA, pLenD, pLstD, mDNew, pRepL, mLenSetN, mDIn, mSortSet, mSortSetL, mRevT, mForC, mSeqC, mLcC, pAbs, pMax2, pMin2, pInt1, mDGet, mDPut, mBM, mBM0, pPop, pAppend, pExtend, pSetL, mSub, mDisp, mPs, mPs0, mRevL, mRevLM, pLstOfM, mTupRg, mRg1, mRg2, pPlusM, lstItems, dictOfP, keyP, keysP, val_left, val_mixed, val_draws, put_draws, mLc, mLcM, mLc2, mFor, mSeqI, mRng1, mRng2, mZip, mEnum, mSl, mNoPart, mPart, mSeq, mAsg, mAsg2, mCB, mCons, mNil, mVar, mC, mOp, mUn, pU, mTup, mLst, mRet, mRetN, mLstM, getl, setl, mName, mCall, mCallK, mIf, mIfS, mTest, mAnd, mOr, mNot, mYes, mAndV, mOrV, mNotV, mNext, mNever, mBreak, mCont, mDrop, mChain, mPar, mGTup, mGCons, mGNil, pGcd, pI, pI0, pIx, pTimes, pPlus, pEq, pNe, pLen, pSum, pMaxS, pAll, pAny, pTupOf, pLstOf, pIn, pIsB, pIsi, items_tup, items_lst, items_kl, items_mr, items_tab, items_lot, items_fr, decide_true, decide_false, eqP_int, eqP_bl, eqP_str, eqP_tup2, kit_tt, kit_ii, kit_ib, tyP, mEnd, wipeP, List.map_cons, List.map_nil, List.getElem?_cons_zero, List.getElem?_cons_succ, List.set_cons_zero, List.set_cons_succ, atI_zero, atI_one, if_true, if_false, ite_true, ite_false, Bool.false_eq_true, List.length_cons, List.length_nil, Bool.not_true, Bool.not_false, frP]
    rw [flr_shl]
    exact ⟨trivial, shl_ok (hnum q hq) (by omega), divN _ q.den_pos (hd44 q hq), hk⟩
  rw [List.nil_append]
  subst hR
  refine stm_of fun R hR => ?_
  simp only [mBits, mEnumC, pSortX, mDNewT, mZipM, mDc, mLenSetL, mDGetT, mDGet2T, mDInT, mDPutT, mLockX, mLockEX, mKeysX, pLstX, pLenX, pMaxT, pSortT, str_to, str_ot, mPar3, mLockV, mLockE, mItemsC, mKeysC, mDGet2, pIsN, isNonP, pRepLM, mTruD, dkOfP, pPopAt, pIndex, mLstRgM, mTruth, pReprA, pLenD, pLstD, mDNew, pRepL, mLenSetN, mDIn, mSortSet, mSortSetL, mRevT, mForC, mSeqC, mLcC, pAbs, pMax2, pMin2, pInt1, mDGet, mDPut, mBM, mBM0, pPop, pAppend, pExtend, pSetL, mSub, mDisp, mPs, mPs0, mRevL, mRevLM, pLstOfM, mTupRg, mRg1, mRg2, pPlusM, lstItems, dictOfP, keyP, keysP, val_left, val_mixed, val_draws, put_draws, mLc, mLcM, mLc2, mFor, mSeqI, mRng1, mRng2, mZip, mEnum, mSl, mNoPart, mPart, mSeq, mAsg, mAsg2, mCB, mCons, mNil, mVar, mC, mOp, mUn, pU, mTup, mLst, mRet, mRetN, mLstM, getl, setl, mName, mCall, mCallK, mIf, mIfS, mTest, mAnd, mOr, mNot, mYes, mAndV, mOrV, mNotV, mNext, mNever, mBreak, mCont, mDrop, mChain, mPar, mGTup, mGCons, mGNil, pGcd, pI, pI0, pIx, pTimes, pPlus, pEq, pNe, pLen, pSum, pMaxS, pAll, pAny, pTupOf, pLstOf, pIn, pIsB, pIsi, items_tup, items_lst, items_kl, items_mr, items_tab, items_lot, items_fr, decide_true, decide_false, eqP_int, eqP_bl, eqP_str, eqP_tup2, kit_tt, kit_ii, kit_ib, tyP, mEnd, wipeP, List.map_cons, List.map_nil, List.getElem?_cons_zero, List.getElem?_cons_succ, List.set_cons_zero, List.set_cons_succ, atI_zero, atI_one, if_true, if_false, ite_true, ite_false, Bool.false_eq_true, List.length_cons, List.length_nil, Bool.not_true, Bool.not_false, S_lowest]
  refine ⟨by decide, by rw [List.length_map]; unfold lim; omega, lc_map (enc := frP) (out := fun q => frP (rsd q t)) (fun q hq kk hk => ?_) ?_⟩
  · simp only [mBits, mEnumC, pSortX, mDNewT, mZipM, mDc, mLenSetL, mDGetT, mDGet2T, mDInT, mDPutT, mLockX, mLockEX, mKeysX, pLstX, pLenX, pMaxT, pSortT, str_to, str_ot, mPar3, mLockV, mLockE, mItemsC, mKeysC, mDGet2, pIsN, isNonP, pRepLM, mTruD, dkOfP, pPopAt, pIndex, mLstRgM, mTruth, pReprA, pLenD, pLstD, mDNew, pRepL, mLenSetN, mDIn, mSortSet, mSortSetL, mRevT, mForC, mSeqC, mLcC, pAbs, pMax2, pMin2, pInt1, mDGet, mDPut, mBM, mBM0, pPop, pAppend, pExtend, pSetL, mSub, mDisp, mPs, mPs0, mRevL, mRevLM, pLstOfM, mTupRg, mRg1, mRg2, pPlusM, lstItems, dictOfP, keyP, keysP, val_left, val_mixed, val_draws, put_draws, mLc, mLcM, mLc2, mFor, mSeqI, mRng1, mRng2, mZip, mEnum, mSl, mNoPart, mPart, mSeq, mAsg, mAsg2, mCB, mCons, mNil, mVar, mC, mOp, mUn, pU, mTup, mLst, mRet, mRetN, mLstM, getl, setl, mName, mCall, mCallK, mIf, mIfS, mTest, mAnd, mOr, mNot, mYes, mAndV, mOrV, mNotV, mNext, mNever, mBreak, mCont, mDrop, mChain, mPar, mGTup, mGCons, mGNil, pGcd, pI, pI0, pIx, pTimes, pPlus, pEq, pNe, pLen, pSum, pMaxS, pAll, pAny, pTupOf, pLstOf, pIn, pIsB, pIsi, items_tup, items_lst, items_kl, items_mr, items_tab, items_lot, items_fr, decide_true, decide_false, eqP_int, eqP_bl, eqP_str, eqP_tup2, kit_tt, kit_ii, kit_ib, tyP, mEnd, wipeP, List.map_cons, List.map_nil, List.getElem?_cons_zero, List.getElem?_cons_succ, List.set_cons_zero, List.set_cons_succ, atI_zero, atI_one, if_true, if_false, ite_true, ite_false, Bool.false_eq_true, List.length_cons, List.length_nil, Bool.not_true, Bool.not_false, frP, S_lowest]
    have hdq := hd44 q hq
    have z1 : (2 : Nat) ^ 44 < 2 ^ 8900 := Nat.pow_lt_pow_right (by decide) (by decide)
    refine ⟨trivial, shl_ok (hnum q hq) (by omega), by have := q.den_pos; omega, trivial, _, _, rfl, by have := q.den_pos; omega, by rw [Int.natAbs_natCast]; omega, ?_⟩
    rw [rsd_fmod]
    exact hk
  rw [List.nil_append]
  have e1 : (qs.map fun q => PV.int (flr q t)) = (qs.map fun q => (q, 0)).map fun x => PV.int (pti t x) := by
    rw [List.map_map]
    refine List.map_congr_left fun q _ => ?_
    show PV.int (flr q t) = PV.int (flr q t + ((0 : Nat) : Int))
    rw [show flr q t + ((0 : Nat) : Int) = flr q t by omega]
  have e2 : (qs.map fun q => frP (rsd q t)) = (qs.map fun q => (q, 0)).map fun x => frP (ptr t x) := by
    rw [List.map_map]
    rfl
  rw [e1, e2]
  have h0 := nst_start t qs
  subst hR
  refine stm_of fun R hR => ?_
  simp only [mBits, mEnumC, pSortX, mDNewT, mZipM, mDc, mLenSetL, mDGetT, mDGet2T, mDInT, mDPutT, mLockX, mLockEX, mKeysX, pLstX, pLenX, pMaxT, pSortT, str_to, str_ot, mPar3, mLockV, mLockE, mItemsC, mKeysC, mDGet2, pIsN, isNonP, pRepLM, mTruD, dkOfP, pPopAt, pIndex, mLstRgM, mTruth, pReprA, pLenD, pLstD, mDNew, pRepL, mLenSetN, mDIn, mSortSet, mSortSetL, mRevT, mForC, mSeqC, mLcC, pAbs, pMax2, pMin2, pInt1, mDGet, mDPut, mBM, mBM0, pPop, pAppend, pExtend, pSetL, mSub, mDisp, mPs, mPs0, mRevL, mRevLM, pLstOfM, mTupRg, mRg1, mRg2, pPlusM, lstItems, dictOfP, keyP, keysP, val_left, val_mixed, val_draws, put_draws, mLc, mLcM, mLc2, mFor, mSeqI, mRng1, mRng2, mZip, mEnum, mSl, mNoPart, mPart, mAsg, mAsg2, mCB, mCons, mNil, mVar, mC, mOp, mUn, pU, mTup, mLst, mRet, mRetN, mLstM, getl, setl, mName, mCall, mCallK, mIf, mIfS, mTest, mAnd, mOr, mNot, mYes, mAndV, mOrV, mNotV, mNext, mNever, mBreak, mCont, mDrop, mChain, mPar, mGTup, mGCons, mGNil, pGcd, pI, pI0, pIx, pTimes, pPlus, pEq, pNe, pLen, pSum, pMaxS, pAll, pAny, pTupOf, pLstOf, pIn, pIsB, pIsi, items_tup, items_lst, items_kl, items_mr, items_tab, items_lot, items_fr, decide_true, decide_false, eqP_int, eqP_bl, eqP_str, eqP_tup2, kit_tt, kit_ii, kit_ib, tyP, mEnd, wipeP, List.map_cons, List.map_nil, List.getElem?_cons_zero, List.getElem?_cons_succ, List.set_cons_zero, List.set_cons_succ, atI_zero, atI_one, if_true, if_false, ite_true, ite_false, Bool.false_eq_true, List.length_cons, List.length_nil, Bool.not_true, Bool.not_false]
  have hg0 : ∀ x y : MO, (μ ++ [x] ++ [y])[μ.length]? = some x := fun x y => getl2a μ x y
  rw [hg0]
  simp only
  have eI : ∀ S : Stt, (S.map fun x => PV.int (pti t x)) = (S.map (pti t)).map PV.int := fun S => by rw [List.map_map]; rfl
  have hL := lck_bd (t := t) hT.one
  have eL : (1 : Int) * 2 ^ ((t : Int)).toNat - ((qs.map fun q => (q, 0)).map (pti t)).sum = lck t qs := by
    rw [sum_pti]
    unfold lck
    rw [Int.one_mul, Int.toNat_natCast, Int.natCast_pow]
    rfl
  rw [show intsP ((qs.map fun q => (q, 0)).map fun x => PV.int (pti t x)) = some ((qs.map fun q => (q, 0)).map (pti t)) by rw [eI, intsP_map]]
  simp only
  rw [eL, rangeP_eq]
  obtain ⟨L, eLn⟩ : ∃ L : Nat, lck t qs = (L : Int) := ⟨(lck t qs).toNat, by omega⟩
  have hlr : (μ ++ [MO.lst ((qs.map fun q => (q, 0)).map fun x => PV.int (pti t x))]).length = μ.length + 1 := by rw [List.length_append]; rfl
  rw [hlr]
  refine ⟨shl_ok (n := 1) (by decide) (by omega), ⟨by omega, by omega⟩, for_inv (enc := fun (i : Nat) => PV.int i) (fun pre ρ μ' => ∃ (S : Stt) (y4 y5 y6 y7 : Option PV), ρ = [some (.tup (qs.map frP)), some (.int (t : Nat)), some (.mr μ.length), some (.mr (μ.length + 1)), y4, y5, y6, y7, none, none, none] ∧ μ' = μ ++ [.lst (S.map fun x => PV.int (pti t x))] ++ [.lst (S.map fun x => frP (ptr t x))] ∧ NSt t qs S pre.length) (done := []) ⟨_, _, _, _, _, rfl, rfl, h0⟩ (fun pre i post ρ μ' e hI N hN => ?_) fun ρ μ' hI => ?_⟩
  · obtain ⟨S, y4, y5, y6, y7, rfl, rfl, hSt⟩ := hI
    obtain ⟨_, hpl⟩ := range_split e
    have hjl : (pre.length : Int) < lck t qs := by omega
    have hSl : S.length = qs.length := by rw [← hSt.fst, List.length_map]
    have hq0 : 0 < qs.length := List.length_pos_iff.mpr hT.ne
    show mSeq _ _ _ _ _
    refine stm_of fun R2 hR2 => ?_
    simp only [mBits, mEnumC, pSortX, mDNewT, mZipM, mDc, mLenSetL, mDGetT, mDGet2T, mDInT, mDPutT, mLockX, mLockEX, mKeysX, pLstX, pLenX, pMaxT, pSortT, str_to, str_ot, mPar3, mLockV, mLockE, mItemsC, mKeysC, mDGet2, pIsN, isNonP, pRepLM, mTruD, dkOfP, pPopAt, pIndex, mLstRgM, mTruth, pReprA, pLenD, pLstD, mDNew, pRepL, mLenSetN, mDIn, mSortSet, mSortSetL, mRevT, mForC, mSeqC, mLcC, pAbs, pMax2, pMin2, pInt1, mDGet, mDPut, mBM, mBM0, pPop, pAppend, pExtend, pSetL, mSub, mDisp, mPs, mPs0, mRevL, mRevLM, pLstOfM, mTupRg, mRg1, mRg2, pPlusM, lstItems, dictOfP, keyP, keysP, val_left, val_mixed, val_draws, put_draws, mLc, mLcM, mLc2, mFor, mSeqI, mRng1, mRng2, mZip, mEnum, mSl, mNoPart, mPart, mSeq, mAsg, mAsg2, mCB, mCons, mNil, mVar, mC, mOp, mUn, pU, mTup, mLst, mRet, mRetN, mLstM, getl, setl, mName, mCall, mCallK, mIf, mIfS, mTest, mAnd, mOr, mNot, mYes, mAndV, mOrV, mNotV, mNext, mNever, mBreak, mCont, mDrop, mChain, mPar, mGTup, mGCons, mGNil, pGcd, pI, pI0, pIx, pTimes, pPlus, pEq, pNe, pLen, pSum, pMaxS, pAll, pAny, pTupOf, pLstOf, pIn, pIsB, pIsi, items_tup, items_lst, items_kl, items_mr, items_tab, items_lot, items_fr, decide_true, decide_false, eqP_int, eqP_bl, eqP_str, eqP_tup2, kit_tt, kit_ii, kit_ib, tyP, mEnd, wipeP, List.map_cons, List.map_nil, List.getElem?_cons_zero, List.getElem?_cons_succ, List.set_cons_zero, List.set_cons_succ, atI_zero, atI_one, if_true, if_false, ite_true, ite_false, Bool.false_eq_true, List.length_cons, List.length_nil, Bool.not_true, Bool.not_false]
    subst hR2
    refine stm_of fun R2 hR2 => ?_
    have hg1 : (μ ++ [MO.lst (S.map fun x => PV.int (pti t x))] ++ [MO.lst (S.map fun x => frP (ptr t x))])[μ.length + 1]? = some (.lst (S.map fun x => frP (ptr t x))) := getl2b μ _ _
    simp only [mBits, mEnumC, pSortX, mDNewT, mZipM, mDc, mLenSetL, mDGetT, mDGet2T, mDInT, mDPutT, mLockX, mLockEX, mKeysX, pLstX, pLenX, pMaxT, pSortT, str_to, str_ot, mPar3, mLockV, mLockE, mItemsC, mKeysC, mDGet2, pIsN, isNonP, pRepLM, mTruD, dkOfP, pPopAt, pIndex, mLstRgM, mTruth, pReprA, pLenD, pLstD, mDNew, pRepL, mLenSetN, mDIn, mSortSet, mSortSetL, mRevT, mForC, mSeqC, mLcC, pAbs, pMax2, pMin2, pInt1, mDGet, mDPut, mBM, mBM0, pPop, pAppend, pExtend, pSetL, mSub, mDisp, mPs, mPs0, mRevL, mRevLM, pLstOfM, mTupRg, mRg1, mRg2, pPlusM, lstItems, dictOfP, keyP, keysP, val_left, val_mixed, val_draws, put_draws, mLc, mLcM, mLc2, mFor, mSeqI, mRng1, mRng2, mZip, mEnum, mSl, mNoPart, mPart, mAsg, mAsg2, mCB, mCons, mNil, mVar, mC, mOp, mUn, pU, mTup, mLst, mRet, mRetN, mLstM, getl, setl, mName, mCall, mCallK, mIf, mIfS, mTest, mAnd, mOr, mNot, mYes, mAndV, mOrV, mNotV, mNext, mNever, mBreak, mCont, mDrop, mChain, mPar, mGTup, mGCons, mGNil, pGcd, pI, pI0, pIx, pTimes, pPlus, pEq, pNe, pLen, pSum, pMaxS, pAll, pAny, pTupOf, pLstOf, pIn, pIsB, pIsi, items_tup, items_lst, items_kl, items_mr, items_tab, items_lot, items_fr, decide_true, decide_false, eqP_int, eqP_bl, eqP_str, eqP_tup2, kit_tt, kit_ii, kit_ib, tyP, mEnd, wipeP, List.map_cons, List.map_nil, List.getElem?_cons_zero, List.getElem?_cons_succ, List.set_cons_zero, List.set_cons_succ, atI_zero, atI_one, if_true, if_false, ite_true, ite_false, Bool.false_eq_true, List.length_cons, List.length_nil, Bool.not_true, Bool.not_false]
    rw [hg1]
    simp only
    rw [enumP_map]
    have hsmr : ∀ x ∈ S, Sm 44 (ptr t x) := fun x hx => by
      unfold ptr
      split
      · exact rsd_sm (hd44 x.1 (by rw [← hSt.fst]; exact List.mem_map.mpr ⟨x, hx, rfl⟩))
      · exact sm_zero (n := 43)
    refine forC_inv (enc := fun x : Nat × (Rat × Nat) => PV.tup [.int (x.1 : Nat), frP (ptr t x.2)]) (fun pre2 ρ μ' => (∃ (g : Nat) (x : Rat × Nat) (y6 y7 : Option PV), ρ = [some (.tup (qs.map frP)), some (.int (t : Nat)), some (.mr μ.length), some (.mr (μ.length + 1)), some (.int (i : Nat)), some (.int (g : Nat)), y6, y7, none, none, none] ∧ S[g]? = some x ∧ ∀ y ∈ pre2, ptr t y.2 ≤ ptr t x) ∧ μ' = μ ++ [.lst (S.map fun x => PV.int (pti t x))] ++ [.lst (S.map fun x => frP (ptr t x))]) (fun pre2 ρ μ' hI2 => by rw [hI2.2]; exact hg1) (done := []) ⟨⟨0, S[0]'(by omega), _, _, rfl, List.getElem?_eq_getElem (by omega), by simp⟩, rfl⟩ (fun pre2 q post2 ρ μ2 e2 hI2 N2 hN2 => ?_) fun ρ μ2 hI2 => ?_
    · obtain ⟨⟨g, x, y6, y7, rfl, hgx, hmax⟩, rfl⟩ := hI2
      have hq : q ∈ numd 0 S := by rw [show numd 0 S = pre2 ++ q :: post2 from e2]; simp
      obtain ⟨q1, q2, q3⟩ := numd_mem hq
      simp only [mBits, mEnumC, pSortX, mDNewT, mZipM, mDc, mLenSetL, mDGetT, mDGet2T, mDInT, mDPutT, mLockX, mLockEX, mKeysX, pLstX, pLenX, pMaxT, pSortT, str_to, str_ot, mPar3, mLockV, mLockE, mItemsC, mKeysC, mDGet2, pIsN, isNonP, pRepLM, mTruD, dkOfP, pPopAt, pIndex, mLstRgM, mTruth, pReprA, pLenD, pLstD, mDNew, pRepL, mLenSetN, mDIn, mSortSet, mSortSetL, mRevT, mForC, mSeqC, mLcC, pAbs, pMax2, pMin2, pInt1, mDGet, mDPut, mBM, mBM0, pPop, pAppend, pExtend, pSetL, mSub, mDisp, mPs, mPs0, mRevL, mRevLM, pLstOfM, mTupRg, mRg1, mRg2, pPlusM, lstItems, dictOfP, keyP, keysP, val_left, val_mixed, val_draws, put_draws, mLc, mLcM, mLc2, mFor, mSeqI, mRng1, mRng2, mZip, mEnum, mSl, mNoPart, mPart, mSeq, mAsg, mAsg2, mCB, mCons, mNil, mVar, mC, mOp, mUn, pU, mTup, mLst, mRet, mRetN, mLstM, getl, setl, mName, mCall, mCallK, mIf, mIfS, mTest, mAnd, mOr, mNot, mYes, mAndV, mOrV, mNotV, mNext, mNever, mBreak, mCont, mDrop, mChain, mPar, mGTup, mGCons, mGNil, pGcd, pI, pI0, pIx, pTimes, pPlus, pEq, pNe, pLen, pSum, pMaxS, pAll, pAny, pTupOf, pLstOf, pIn, pIsB, pIsi, items_tup, items_lst, items_kl, items_mr, items_tab, items_lot, items_fr, decide_true, decide_false, eqP_int, eqP_bl, eqP_str, eqP_tup2, kit_tt, kit_ii, kit_ib, tyP, mEnd, wipeP, List.map_cons, List.map_nil, List.getElem?_cons_zero, List.getElem?_cons_succ, List.set_cons_zero, List.set_cons_succ, atI_zero, atI_one, if_true, if_false, ite_true, ite_false, Bool.false_eq_true, List.length_cons, List.length_nil, Bool.not_true, Bool.not_false, S_is_above]
      have hat : L2.atI (S.map fun x => frP (ptr t x)) (g : Int) = some (frP (ptr t x)) := atI_map hgx
      rw [hg1]
      simp only
      rw [hat]
      have hxS := List.mem_of_getElem? hgx
      refine ⟨trivial, trivial, _, _, rfl, (hsmr _ q1).mono (by decide), (hsmr _ hxS).mono (by decide), ?_⟩
      by_cases c : ptr t x < ptr t q.2
      · rw [decide_eq_true c, if_pos rfl]
        refine hN2 _ _ ⟨⟨q.1, q.2, _, _, rfl, ?_, fun y hy => ?_⟩, rfl⟩
        · have := numd_at hq
          rw [Nat.sub_zero] at this
          exact this
        · rcases List.mem_append.mp hy with hy | hy
          · have := hmax y hy; grind
          · rw [List.mem_singleton.mp hy]; exact Rat.le_refl
      · rw [decide_eq_false c, if_neg (by decide)]
        refine hN2 _ _ ⟨⟨g, x, _, _, rfl, hgx, fun y hy => ?_⟩, rfl⟩
        rcases List.mem_append.mp hy with hy | hy
        · exact hmax y hy
        · rw [List.mem_singleton.mp hy]; exact Rat.not_lt.mp c
    · obtain ⟨⟨g, x, y6, y7, rfl, hgx, hmax⟩, rfl⟩ := hI2
      rw [List.nil_append] at hmax
      have hm2 : ∀ y ∈ S, ptr t y ≤ ptr t x := fun y hy => by
        obtain ⟨j, hj, rfl⟩ := List.getElem_of_mem hy
        exact hmax (0 + j, S[j]) (numd_in (List.getElem?_eq_getElem hj))
      obtain ⟨x0, hNext⟩ := nst_step hSt hT.one hjl hgx hm2
      show R2 _ _
      subst hR2
      refine stm_of fun R2 hR2 => ?_
      simp only [mBits, mEnumC, pSortX, mDNewT, mZipM, mDc, mLenSetL, mDGetT, mDGet2T, mDInT, mDPutT, mLockX, mLockEX, mKeysX, pLstX, pLenX, pMaxT, pSortT, str_to, str_ot, mPar3, mLockV, mLockE, mItemsC, mKeysC, mDGet2, pIsN, isNonP, pRepLM, mTruD, dkOfP, pPopAt, pIndex, mLstRgM, mTruth, pReprA, pLenD, pLstD, mDNew, pRepL, mLenSetN, mDIn, mSortSet, mSortSetL, mRevT, mForC, mSeqC, mLcC, pAbs, pMax2, pMin2, pInt1, mDGet, mDPut, mBM, mBM0, pPop, pAppend, pExtend, pSetL, mSub, mDisp, mPs, mPs0, mRevL, mRevLM, pLstOfM, mTupRg, mRg1, mRg2, pPlusM, lstItems, dictOfP, keyP, keysP, val_left, val_mixed, val_draws, put_draws, mLc, mLcM, mLc2, mFor, mSeqI, mRng1, mRng2, mZip, mEnum, mSl, mNoPart, mPart, mSeq, mAsg, mAsg2, mCB, mCons, mNil, mVar, mC, mOp, mUn, pU, mTup, mLst, mRet, mRetN, mLstM, getl, setl, mName, mCall, mCallK, mIf, mIfS, mTest, mAnd, mOr, mNot, mYes, mAndV, mOrV, mNotV, mNext, mNever, mBreak, mCont, mDrop, mChain, mPar, mGTup, mGCons, mGNil, pGcd, pI, pI0, pIx, pTimes, pPlus, pEq, pNe, pLen, pSum, pMaxS, pAll, pAny, pTupOf, pLstOf, pIn, pIsB, pIsi, items_tup, items_lst, items_kl, items_mr, items_tab, items_lot, items_fr, decide_true, decide_false, eqP_int, eqP_bl, eqP_str, eqP_tup2, kit_tt, kit_ii, kit_ib, tyP, mEnd, wipeP, List.map_cons, List.map_nil, List.getElem?_cons_zero, List.getElem?_cons_succ, List.set_cons_zero, List.set_cons_succ, atI_zero, atI_one, if_true, if_false, ite_true, ite_false, Bool.false_eq_true, List.length_cons, List.length_nil, Bool.not_true, Bool.not_false]
      have hatP : L2.atI (S.map fun x => PV.int (pti t x)) (g : Int) = some (.int (pti t x)) := atI_map hgx
      have hgl := (List.getElem?_eq_some_iff.mp hgx).1
      have hixP : ixN (S.map fun x => PV.int (pti t x)).length (g : Int) = some g := ixN_nat (by rw [List.length_map]; exact hgl)
      have hixR : ixN (S.map fun x => frP (ptr t x)).length (g : Int) = some g := ixN_nat (by rw [List.length_map]; exact hgl)
      rw [hg0]
      simp only
      rw [hatP]
      simp only
      rw [hixP]
      simp only
      rw [setl2a]
      subst hR2
      simp only [mBits, mEnumC, pSortX, mDNewT, mZipM, mDc, mLenSetL, mDGetT, mDGet2T, mDInT, mDPutT, mLockX, mLockEX, mKeysX, pLstX, pLenX, pMaxT, pSortT, str_to, str_ot, mPar3, mLockV, mLockE, mItemsC, mKeysC, mDGet2, pIsN, isNonP, pRepLM, mTruD, dkOfP, pPopAt, pIndex, mLstRgM, mTruth, pReprA, pLenD, pLstD, mDNew, pRepL, mLenSetN, mDIn, mSortSet, mSortSetL, mRevT, mForC, mSeqC, mLcC, pAbs, pMax2, pMin2, pInt1, mDGet, mDPut, mBM, mBM0, pPop, pAppend, pExtend, pSetL, mSub, mDisp, mPs, mPs0, mRevL, mRevLM, pLstOfM, mTupRg, mRg1, mRg2, pPlusM, lstItems, dictOfP, keyP, keysP, val_left, val_mixed, val_draws, put_draws, mLc, mLcM, mLc2, mFor, mSeqI, mRng1, mRng2, mZip, mEnum, mSl, mNoPart, mPart, mSeq, mAsg, mAsg2, mCB, mCons, mNil, mVar, mC, mOp, mUn, pU, mTup, mLst, mRet, mRetN, mLstM, getl, setl, mName, mCall, mCallK, mIf, mIfS, mTest, mAnd, mOr, mNot, mYes, mAndV, mOrV, mNotV, mNext, mNever, mBreak, mCont, mDrop, mChain, mPar, mGTup, mGCons, mGNil, pGcd, pI, pI0, pIx, pTimes, pPlus, pEq, pNe, pLen, pSum, pMaxS, pAll, pAny, pTupOf, pLstOf, pIn, pIsB, pIsi, items_tup, items_lst, items_kl, items_mr, items_tab, items_lot, items_fr, decide_true, decide_false, eqP_int, eqP_bl, eqP_str, eqP_tup2, kit_tt, kit_ii, kit_ib, tyP, mEnd, wipeP, List.map_cons, List.map_nil, List.getElem?_cons_zero, List.getElem?_cons_succ, List.set_cons_zero, List.set_cons_succ, atI_zero, atI_one, if_true, if_false, ite_true, ite_false, Bool.false_eq_true, List.length_cons, List.length_nil, Bool.not_true, Bool.not_false]
      rw [getl2b]
      simp only
      rw [hixR]
      refine ⟨by decide, ?_⟩
      simp only
      rw [setl2b]
      have e1 : (S.map fun x => PV.int (pti t x)).set g (PV.int (pti t x + 1)) = (S.set g (x.1, 1)).map fun x => PV.int (pti t x) := by
        rw [List.map_set]
        congr 2
        unfold pti
        rw [x0]
        show flr x.1 t + ((0 : Nat) : Int) + 1 = flr x.1 t + ((1 : Nat) : Int)
        omega
      have e2 : (S.map fun x => frP (ptr t x)).set g (PV.tup [PV.int 0, PV.int 1]) = (S.set g (x.1, 1)).map fun x => frP (ptr t x) := by
        rw [List.map_set]
        rfl
      rw [e1, e2]
      exact hN _ _ ⟨S.set g (x.1, 1), _, _, _, _, rfl, rfl, by rw [List.length_append]; exact hNext⟩
  obtain ⟨S, y4, y5, y6, y7, rfl, rfl, hSt⟩ := hI
  rw [List.nil_append, List.length_range, eLn] at hSt
  show R _ _
  subst hR
  simp only [mBits, mEnumC, pSortX, mDNewT, mZipM, mDc, mLenSetL, mDGetT, mDGet2T, mDInT, mDPutT, mLockX, mLockEX, mKeysX, pLstX, pLenX, pMaxT, pSortT, str_to, str_ot, mPar3, mLockV, mLockE, mItemsC, mKeysC, mDGet2, pIsN, isNonP, pRepLM, mTruD, dkOfP, pPopAt, pIndex, mLstRgM, mTruth, pReprA, pLenD, pLstD, mDNew, pRepL, mLenSetN, mDIn, mSortSet, mSortSetL, mRevT, mForC, mSeqC, mLcC, pAbs, pMax2, pMin2, pInt1, mDGet, mDPut, mBM, mBM0, pPop, pAppend, pExtend, pSetL, mSub, mDisp, mPs, mPs0, mRevL, mRevLM, pLstOfM, mTupRg, mRg1, mRg2, pPlusM, lstItems, dictOfP, keyP, keysP, val_left, val_mixed, val_draws, put_draws, mLc, mLcM, mLc2, mFor, mSeqI, mRng1, mRng2, mZip, mEnum, mSl, mNoPart, mPart, mSeq, mAsg, mAsg2, mCB, mCons, mNil, mVar, mC, mOp, mUn, pU, mTup, mLst, mRet, mRetN, mLstM, getl, setl, mName, mCall, mCallK, mIf, mIfS, mTest, mAnd, mOr, mNot, mYes, mAndV, mOrV, mNotV, mNext, mNever, mBreak, mCont, mDrop, mChain, mPar, mGTup, mGCons, mGNil, pGcd, pI, pI0, pIx, pTimes, pPlus, pEq, pNe, pLen, pSum, pMaxS, pAll, pAny, pTupOf, pLstOf, pIn, pIsB, pIsi, items_tup, items_lst, items_kl, items_mr, items_tab, items_lot, items_fr, decide_true, decide_false, eqP_int, eqP_bl, eqP_str, eqP_tup2, kit_tt, kit_ii, kit_ib, tyP, mEnd, wipeP, List.map_cons, List.map_nil, List.getElem?_cons_zero, List.getElem?_cons_succ, List.set_cons_zero, List.set_cons_succ, atI_zero, atI_one, if_true, if_false, ite_true, ite_false, Bool.false_eq_true, List.length_cons, List.length_nil, Bool.not_true, Bool.not_false, S_lowest]
  rw [hg0]
  have hSl : S.length = qs.length := by rw [← hSt.fst, List.length_map]
  have hpt : 2 ^ t ≤ 2 ^ 40 := Nat.pow_le_pow_right (by decide) ht
  have hpt0 := Nat.two_pow_pos t
  have z1 : (2 : Nat) ^ 40 < 2 ^ 8900 := Nat.pow_lt_pow_right (by decide) (by decide)
  have ep : (1 : Int) * 2 ^ ((t : Int)).toNat = ((2 ^ t : Nat) : Int) := by rw [Int.one_mul, Int.toNat_natCast, Int.natCast_pow]; rfl
  refine ⟨by decide, ?_⟩
  simp only
  refine ⟨by rw [List.length_map]; unfold lim; omega, lcC_map (enc := fun x => PV.int (pti t x)) (out := fun x => frP (prtS t x)) (hg0 _ _) (fun x hx kk hk => ?_) ?_⟩
  · simp only [mBits, mEnumC, pSortX, mDNewT, mZipM, mDc, mLenSetL, mDGetT, mDGet2T, mDInT, mDPutT, mLockX, mLockEX, mKeysX, pLstX, pLenX, pMaxT, pSortT, str_to, str_ot, mPar3, mLockV, mLockE, mItemsC, mKeysC, mDGet2, pIsN, isNonP, pRepLM, mTruD, dkOfP, pPopAt, pIndex, mLstRgM, mTruth, pReprA, pLenD, pLstD, mDNew, pRepL, mLenSetN, mDIn, mSortSet, mSortSetL, mRevT, mForC, mSeqC, mLcC, pAbs, pMax2, pMin2, pInt1, mDGet, mDPut, mBM, mBM0, pPop, pAppend, pExtend, pSetL, mSub, mDisp, mPs, mPs0, mRevL, mRevLM, pLstOfM, mTupRg, mRg1, mRg2, pPlusM, lstItems, dictOfP, keyP, keysP, val_left, val_mixed, val_draws, put_draws, mLc, mLcM, mLc2, mFor, mSeqI, mRng1, mRng2, mZip, mEnum, mSl, mNoPart, mPart, mSeq, mAsg, mAsg2, mCB, mCons, mNil, mVar, mC, mOp, mUn, pU, mTup, mLst, mRet, mRetN, mLstM, getl, setl, mName, mCall, mCallK, mIf, mIfS, mTest, mAnd, mOr, mNot, mYes, mAndV, mOrV, mNotV, mNext, mNever, mBreak, mCont, mDrop, mChain, mPar, mGTup, mGCons, mGNil, pGcd, pI, pI0, pIx, pTimes, pPlus, pEq, pNe, pLen, pSum, pMaxS, pAll, pAny, pTupOf, pLstOf, pIn, pIsB, pIsi, items_tup, items_lst, items_kl, items_mr, items_tab, items_lot, items_fr, decide_true, decide_false, eqP_int, eqP_bl, eqP_str, eqP_tup2, kit_tt, kit_ii, kit_ib, tyP, mEnd, wipeP, List.map_cons, List.map_nil, List.getElem?_cons_zero, List.getElem?_cons_succ, List.set_cons_zero, List.set_cons_succ, atI_zero, atI_one, if_true, if_false, ite_true, ite_false, Bool.false_eq_true, List.length_cons, List.length_nil, Bool.not_true, Bool.not_false, S_lowest]
    rw [ep]
    exact ⟨shl_ok (n := 1) (by decide) (by omega), trivial, _, _, rfl, by omega, by rw [Int.natAbs_natCast]; omega, hk⟩
  rw [List.nil_append]
  have ez : PV.tup (S.map fun x => frP (prtS t x)) = tabP (S.map (prtS t)) := by rw [tabP, List.map_map]; rfl
  rw [ez]
  have hN := nst_end hSt hT.one eLn.symm
  have hgc : tabP (S.map (prtS t)) = tabP (S.map (prtS t)) := rfl
  rw [List.append_assoc]
  exact fin_drop (noRef_tab _) (hQ _ hN)
abbrev N__law_distance : List Str := ["_law_one", "_law_other", "_law_found", "_law_x", "_law_y"]
theorem sc__law_distance : FnScope N__law_distance ["_law_one", "_law_other"] (defScope s__law_distance) := ⟨rfl, rfl, rfl, by decide +kernel, rfl, by decide +kernel, by decide +kernel⟩
theorem ok__law_distance (B : Blt mg) (h__law_distance : Own K mg "_law_distance" s__law_distance) (k__law_plus : Ok P w K mg base 3 "_law_plus" s__law_plus ["_law_one", "_law_other"] S__law_plus) (k__law_is_less : Ok P w K mg base 1 "_law_is_less" s__law_is_less ["_law_one", "_law_other"] S__law_is_less) (k__law_minus : Ok P w K mg base 3 "_law_minus" s__law_minus ["_law_one", "_law_other"] S__law_minus) (k__law_over : Ok P w K mg base 3 "_law_over" s__law_over ["_law_one", "_law_other"] S__law_over) : Ok P w K mg base 4 "_law_distance" s__law_distance ["_law_one", "_law_other"] S__law_distance := by
  obtain ⟨f_s, fd_s, F_s, g_s⟩ := h__law_distance
  obtain ⟨f__law_plus, fd__law_plus, F__law_plus, g__law_plus, b__law_plus, G__law_plus⟩ := k__law_plus
  obtain ⟨f__law_is_less, fd__law_is_less, F__law_is_less, g__law_is_less, b__law_is_less, G__law_is_less⟩ := k__law_is_less
  obtain ⟨f__law_minus, fd__law_minus, F__law_minus, g__law_minus, b__law_minus, G__law_minus⟩ := k__law_minus
  obtain ⟨f__law_over, fd__law_over, F__law_over, g__law_over, b__law_over, G__law_over⟩ := k__law_over
  refine ⟨f_s, fd_s, F_s, g_s, F_s.binds (fun _ _ _ _ _ _ us hl => match us, hl with | [_, _], _ => rfl), FnG.of F_s sc__law_distance (fun xs μ Q h => by first | exact h.1 | exact h.2.1 | (obtain ⟨⟩ := h)) fun cdv A outer s H hr hgd => ⟨_, _, (pss_cons (ps_set (i := 2) sc__law_distance.nd rfl (Or.inl rfl) (pe_tup (pa_cons pe_int (pa_cons pe_int pa_nil))))
 (pss_cons (ps_for PassesOwn.never rfl (pi_zipA (by rfl) (B "zip" (by decide)) (pa_cons (pv 0) (pa_cons (pv 1) pa_nil))) (pg_tup (n := 2) rfl (pgs_cons (pg_name (i := 3) sc__law_distance.nd rfl (Or.inl rfl)) (pgs_cons (pg_name (i := 4) sc__law_distance.nd rfl (Or.inl rfl)) pgs_nil)))
 (pss_one (ps_set (i := 2) sc__law_distance.nd rfl (Or.inl rfl) (pe_callG (G__law_plus.mono (by decide)) hr hgd (by rfl) g__law_plus F__law_plus.kp b__law_plus (pa_cons (pv 2) (pa_cons (pe_ifExp (pt_val (pe_callG (G__law_is_less.mono (by decide)) hr hgd (by rfl) g__law_is_less F__law_is_less.kp b__law_is_less (pa_cons (pv 4) (pa_cons (pv 3) pa_nil)))) (pe_callG (G__law_minus.mono (by decide)) hr hgd (by rfl) g__law_minus F__law_minus.kp b__law_minus (pa_cons (pv 3) (pa_cons (pv 4) pa_nil))) (pe_callG (G__law_minus.mono (by decide)) hr hgd (by rfl) g__law_minus F__law_minus.kp b__law_minus (pa_cons (pv 4) (pa_cons (pv 3) pa_nil)))) pa_nil))))))
 (pss_one (ps_ret (pe_callG (G__law_over.mono (by decide)) hr hgd (by rfl) g__law_over F__law_over.kp b__law_over (pa_cons (pv 2) (pa_cons (pe_tup (pa_cons pe_int (pa_cons pe_int pa_nil))) pa_nil))))))), (by (try dsimp only [cxOf]); exact inferInstance), ?_⟩⟩
  intro xs μ Q hS
  obtain ⟨_, m, n, a, b, rfl, ha, hb, hz, hl, hQ⟩ := hS
  rw [show startP N__law_distance [tabP a, tabP b] = [some (tabP a), some (tabP b), none, none, none] from rfl]
  have hsb := dls_sb hl ha hb
  refine stm_of fun R hR => ?_
  simp only [mBits, mEnumC, pSortX, mDNewT, mZipM, mDc, mLenSetL, mDGetT, mDGet2T, mDInT, mDPutT, mLockX, mLockEX, mKeysX, pLstX, pLenX, pMaxT, pSortT, str_to, str_ot, mPar3, mLockV, mLockE, mItemsC, mKeysC, mDGet2, pIsN, isNonP, pRepLM, mTruD, dkOfP, pPopAt, pIndex, mLstRgM, mTruth, pReprA, pLenD, pLstD, mDNew, pRepL, mLenSetN, mDIn, mSortSet, mSortSetL, mRevT, mForC, mSeqC, mLcC, pAbs, pMax2, pMin2, pInt1, mDGet, mDPut, mBM, mBM0, pPop, pAppend, pExtend, pSetL, mSub, mDisp, mPs, mPs0, mRevL, mRevLM, pLstOfM, mTupRg, mRg1, mRg2, pPlusM, lstItems, dictOfP, keyP, keysP, val_left, val_mixed, val_draws, put_draws, mLc, mLcM, mLc2, mFor, mSeqI, mRng1, mRng2, mZip, mEnum, mSl, mNoPart, mPart, mSeq, mAsg, mAsg2, mCB, mCons, mNil, mVar, mC, mOp, mUn, pU, mTup, mLst, mRet, mRetN, mLstM, getl, setl, mName, mCall, mCallK, mIf, mIfS, mTest, mAnd, mOr, mNot, mYes, mAndV, mOrV, mNotV, mNext, mNever, mBreak, mCont, mDrop, mChain, mPar, mGTup, mGCons, mGNil, pGcd, pI, pI0, pIx, pTimes, pPlus, pEq, pNe, pLen, pSum, pMaxS, pAll, pAny, pTupOf, pLstOf, pIn, pIsB, pIsi, items_tup, items_lst, items_kl, items_mr, items_tab, items_lot, items_fr, decide_true, decide_false, eqP_int, eqP_bl, eqP_str, eqP_tup2, kit_tt, kit_ii, kit_ib, tyP, mEnd, wipeP, List.map_cons, List.map_nil, List.getElem?_cons_zero, List.getElem?_cons_succ, List.set_cons_zero, List.set_cons_succ, atI_zero, atI_one, if_true, if_false, ite_true, ite_false, Bool.false_eq_true, List.length_cons, List.length_nil, Bool.not_true, Bool.not_false]
  refine ⟨by decide, ?_⟩
  subst hR
  refine stm_of fun R1 hR1 => ?_
  simp only [mBits, mEnumC, pSortX, mDNewT, mZipM, mDc, mLenSetL, mDGetT, mDGet2T, mDInT, mDPutT, mLockX, mLockEX, mKeysX, pLstX, pLenX, pMaxT, pSortT, str_to, str_ot, mPar3, mLockV, mLockE, mItemsC, mKeysC, mDGet2, pIsN, isNonP, pRepLM, mTruD, dkOfP, pPopAt, pIndex, mLstRgM, mTruth, pReprA, pLenD, pLstD, mDNew, pRepL, mLenSetN, mDIn, mSortSet, mSortSetL, mRevT, mForC, mSeqC, mLcC, pAbs, pMax2, pMin2, pInt1, mDGet, mDPut, mBM, mBM0, pPop, pAppend, pExtend, pSetL, mSub, mDisp, mPs, mPs0, mRevL, mRevLM, pLstOfM, mTupRg, mRg1, mRg2, pPlusM, lstItems, dictOfP, keyP, keysP, val_left, val_mixed, val_draws, put_draws, mLc, mLcM, mLc2, mFor, mSeqI, mRng1, mRng2, mZip, mEnum, mSl, mNoPart, mPart, mAsg, mAsg2, mCB, mCons, mNil, mVar, mC, mOp, mUn, pU, mTup, mLst, mRet, mRetN, mLstM, getl, setl, mName, mCall, mCallK, mIf, mIfS, mTest, mAnd, mOr, mNot, mYes, mAndV, mOrV, mNotV, mNext, mNever, mBreak, mCont, mDrop, mChain, mPar, mGTup, mGCons, mGNil, pGcd, pI, pI0, pIx, pTimes, pPlus, pEq, pNe, pLen, pSum, pMaxS, pAll, pAny, pTupOf, pLstOf, pIn, pIsB, pIsi, items_tup, items_lst, items_kl, items_mr, items_tab, items_lot, items_fr, decide_true, decide_false, eqP_int, eqP_bl, eqP_str, eqP_tup2, kit_tt, kit_ii, kit_ib, tyP, mEnd, wipeP, List.map_cons, List.map_nil, List.getElem?_cons_zero, List.getElem?_cons_succ, List.set_cons_zero, List.set_cons_succ, atI_zero, atI_one, if_true, if_false, ite_true, ite_false, Bool.false_eq_true, List.length_cons, List.length_nil, Bool.not_true, Bool.not_false, tabP]
  rw [zipP_map]
  refine for_inv (enc := fun p : Rat × Rat => .tup [frP p.1, frP p.2]) (fun pre ρ μ' => (∃ y3 y4 : Option PV, ρ = [some (.tup (a.map frP)), some (.tup (b.map frP)), some (frP (pre.map fun p => rab (p.1 - p.2)).sum), y3, y4]) ∧ μ' = μ) (done := []) ⟨⟨_, _, rfl⟩, rfl⟩ (fun pre p post ρ μ' e hI N hN => ?_) fun ρ μ' hI => ?_
  · obtain ⟨⟨y3, y4, rfl⟩, rfl⟩ := hI
    have e' : a.zip b = pre ++ p :: post := e
    have hp2 := List.of_mem_zip (a := p.1) (b := p.2) (show (p.1, p.2) ∈ a.zip b by rw [e']; simp)
    have s1 := (ha.sm hp2.1).mono (show m + 1 ≤ 4000 by omega)
    have s2 := (hb.sm hp2.2).mono (show n + 1 ≤ 4000 by omega)
    have hd : dls a b = (pre.map fun p => rab (p.1 - p.2)) ++ rab (p.1 - p.2) :: post.map fun p => rab (p.1 - p.2) := by unfold dls; rw [e', List.map_append, List.map_cons]
    have sp : Sm 4000 (pre.map fun p => rab (p.1 - p.2)).sum := (hsb.sub (by rw [hd]; exact List.sublist_append_left _ _)).sum_sm.mono (by omega)
    have sx : Sm 4000 (rab (p.1 - p.2)) := (hsb.mem_sm (by rw [hd]; simp)).mono (by omega)
    have key : ∀ y3 y4, N [some (.tup (a.map frP)), some (.tup (b.map frP)), some (frP ((pre.map fun p => rab (p.1 - p.2)).sum + rab (p.1 - p.2))), y3, y4] μ' := fun y3 y4 => by
      refine hN _ _ ⟨⟨y3, y4, ?_⟩, rfl⟩
      rw [List.map_append, sum_append, List.map_cons, List.map_nil, List.sum_cons, List.sum_nil, Rat.add_zero]
    simp only [mBits, mEnumC, pSortX, mDNewT, mZipM, mDc, mLenSetL, mDGetT, mDGet2T, mDInT, mDPutT, mLockX, mLockEX, mKeysX, pLstX, pLenX, pMaxT, pSortT, str_to, str_ot, mPar3, mLockV, mLockE, mItemsC, mKeysC, mDGet2, pIsN, isNonP, pRepLM, mTruD, dkOfP, pPopAt, pIndex, mLstRgM, mTruth, pReprA, pLenD, pLstD, mDNew, pRepL, mLenSetN, mDIn, mSortSet, mSortSetL, mRevT, mForC, mSeqC, mLcC, pAbs, pMax2, pMin2, pInt1, mDGet, mDPut, mBM, mBM0, pPop, pAppend, pExtend, pSetL, mSub, mDisp, mPs, mPs0, mRevL, mRevLM, pLstOfM, mTupRg, mRg1, mRg2, pPlusM, lstItems, dictOfP, keyP, keysP, val_left, val_mixed, val_draws, put_draws, mLc, mLcM, mLc2, mFor, mSeqI, mRng1, mRng2, mZip, mEnum, mSl, mNoPart, mPart, mSeq, mAsg, mAsg2, mCB, mCons, mNil, mVar, mC, mOp, mUn, pU, mTup, mLst, mRet, mRetN, mLstM, getl, setl, mName, mCall, mCallK, mIf, mIfS, mTest, mAnd, mOr, mNot, mYes, mAndV, mOrV, mNotV, mNext, mNever, mBreak, mCont, mDrop, mChain, mPar, mGTup, mGCons, mGNil, pGcd, pI, pI0, pIx, pTimes, pPlus, pEq, pNe, pLen, pSum, pMaxS, pAll, pAny, pTupOf, pLstOf, pIn, pIsB, pIsi, items_tup, items_lst, items_kl, items_mr, items_tab, items_lot, items_fr, decide_true, decide_false, eqP_int, eqP_bl, eqP_str, eqP_tup2, kit_tt, kit_ii, kit_ib, tyP, mEnd, wipeP, List.map_cons, List.map_nil, List.getElem?_cons_zero, List.getElem?_cons_succ, List.set_cons_zero, List.set_cons_succ, atI_zero, atI_one, if_true, if_false, ite_true, ite_false, Bool.false_eq_true, List.length_cons, List.length_nil, Bool.not_true, Bool.not_false, S__law_is_less, S__law_minus, S__law_plus]
    by_cases c : p.2 < p.1
    · refine ⟨trivial, trivial, _, _, rfl, s2, s1, ?_⟩
      rw [decide_eq_true c, if_pos rfl]
      have e9 : p.1 - p.2 = rab (p.1 - p.2) := by rw [← rab_if, if_pos c]
      refine ⟨trivial, _, _, rfl, s1, s2, trivial, _, _, rfl, sp, by rw [e9]; exact sx, ?_⟩
      rw [e9]
      exact key _ _
    · refine ⟨trivial, trivial, _, _, rfl, s2, s1, ?_⟩
      rw [decide_eq_false c, if_neg (by decide)]
      have e9 : p.2 - p.1 = rab (p.1 - p.2) := by rw [← rab_if, if_neg c]
      refine ⟨trivial, _, _, rfl, s2, s1, trivial, _, _, rfl, sp, by rw [e9]; exact sx, ?_⟩
      rw [e9]
      exact key _ _
  · obtain ⟨⟨y3, y4, rfl⟩, rfl⟩ := hI
    rw [List.nil_append]
    show R1 _ _
    subst hR1
    simp only [mBits, mEnumC, pSortX, mDNewT, mZipM, mDc, mLenSetL, mDGetT, mDGet2T, mDInT, mDPutT, mLockX, mLockEX, mKeysX, pLstX, pLenX, pMaxT, pSortT, str_to, str_ot, mPar3, mLockV, mLockE, mItemsC, mKeysC, mDGet2, pIsN, isNonP, pRepLM, mTruD, dkOfP, pPopAt, pIndex, mLstRgM, mTruth, pReprA, pLenD, pLstD, mDNew, pRepL, mLenSetN, mDIn, mSortSet, mSortSetL, mRevT, mForC, mSeqC, mLcC, pAbs, pMax2, pMin2, pInt1, mDGet, mDPut, mBM, mBM0, pPop, pAppend, pExtend, pSetL, mSub, mDisp, mPs, mPs0, mRevL, mRevLM, pLstOfM, mTupRg, mRg1, mRg2, pPlusM, lstItems, dictOfP, keyP, keysP, val_left, val_mixed, val_draws, put_draws, mLc, mLcM, mLc2, mFor, mSeqI, mRng1, mRng2, mZip, mEnum, mSl, mNoPart, mPart, mSeq, mAsg, mAsg2, mCB, mCons, mNil, mVar, mC, mOp, mUn, pU, mTup, mLst, mRet, mRetN, mLstM, getl, setl, mName, mCall, mCallK, mIf, mIfS, mTest, mAnd, mOr, mNot, mYes, mAndV, mOrV, mNotV, mNext, mNever, mBreak, mCont, mDrop, mChain, mPar, mGTup, mGCons, mGNil, pGcd, pI, pI0, pIx, pTimes, pPlus, pEq, pNe, pLen, pSum, pMaxS, pAll, pAny, pTupOf, pLstOf, pIn, pIsB, pIsi, items_tup, items_lst, items_kl, items_mr, items_tab, items_lot, items_fr, decide_true, decide_false, eqP_int, eqP_bl, eqP_str, eqP_tup2, kit_tt, kit_ii, kit_ib, tyP, mEnd, wipeP, List.map_cons, List.map_nil, List.getElem?_cons_zero, List.getElem?_cons_succ, List.set_cons_zero, List.set_cons_succ, atI_zero, atI_one, if_true, if_false, ite_true, ite_false, Bool.false_eq_true, List.length_cons, List.length_nil, Bool.not_true, Bool.not_false, S__law_over]
    have e2 : PV.tup [.int 2, .int 1] = frP 2 := rfl
    have e3 : ((a.zip b).map fun p => rab (p.1 - p.2)).sum = d2 a b := dls_sum hl
    rw [e2, e3]
    refine ⟨by decide, trivial, _, 2, rfl, (by rw [← e3]; exact hsb.sum_sm.mono (by omega)), ⟨by decide +kernel, by decide +kernel⟩, by decide, fin_keep hQ⟩
abbrev N__law_greatest : List Str := ["_law_one", "_law_other", "_law_found", "_law_x", "_law_y", "_law_amount"]
theorem sc__law_greatest : FnScope N__law_greatest ["_law_one", "_law_other"] (defScope s__law_greatest) := ⟨rfl, rfl, rfl, by decide +kernel, rfl, by decide +kernel, by decide +kernel⟩
theorem ok__law_greatest (B : Blt mg) (h__law_greatest : Own K mg "_law_greatest" s__law_greatest) (k__law_is_less : Ok P w K mg base 1 "_law_is_less" s__law_is_less ["_law_one", "_law_other"] S__law_is_less) (k__law_minus : Ok P w K mg base 3 "_law_minus" s__law_minus ["_law_one", "_law_other"] S__law_minus) : Ok P w K mg base 4 "_law_greatest" s__law_greatest ["_law_one", "_law_other"] S__law_greatest := by
  obtain ⟨f_s, fd_s, F_s, g_s⟩ := h__law_greatest
  obtain ⟨f__law_is_less, fd__law_is_less, F__law_is_less, g__law_is_less, b__law_is_less, G__law_is_less⟩ := k__law_is_less
  obtain ⟨f__law_minus, fd__law_minus, F__law_minus, g__law_minus, b__law_minus, G__law_minus⟩ := k__law_minus
  refine ⟨f_s, fd_s, F_s, g_s, F_s.binds (fun _ _ _ _ _ _ us hl => match us, hl with | [_, _], _ => rfl), FnG.of F_s sc__law_greatest (fun xs μ Q h => by first | exact h.1 | exact h.2.1 | (obtain ⟨⟩ := h)) fun cdv A outer s H hr hgd => ⟨_, _, (pss_cons (ps_set (i := 2) sc__law_greatest.nd rfl (Or.inl rfl) (pe_tup (pa_cons pe_int (pa_cons pe_int pa_nil))))
 (pss_cons (ps_for PassesOwn.never rfl (pi_zipA (by rfl) (B "zip" (by decide)) (pa_cons (pv 0) (pa_cons (pv 1) pa_nil))) (pg_tup (n := 2) rfl (pgs_cons (pg_name (i := 3) sc__law_greatest.nd rfl (Or.inl rfl)) (pgs_cons (pg_name (i := 4) sc__law_greatest.nd rfl (Or.inl rfl)) pgs_nil)))
 (pss_cons (ps_set (i := 5) sc__law_greatest.nd rfl (Or.inl rfl) (pe_ifExp (pt_val (pe_callG (G__law_is_less.mono (by decide)) hr hgd (by rfl) g__law_is_less F__law_is_less.kp b__law_is_less (pa_cons (pv 4) (pa_cons (pv 3) pa_nil)))) (pe_callG (G__law_minus.mono (by decide)) hr hgd (by rfl) g__law_minus F__law_minus.kp b__law_minus (pa_cons (pv 3) (pa_cons (pv 4) pa_nil))) (pe_callG (G__law_minus.mono (by decide)) hr hgd (by rfl) g__law_minus F__law_minus.kp b__law_minus (pa_cons (pv 4) (pa_cons (pv 3) pa_nil)))))
 (pss_one (ps_set (i := 2) sc__law_greatest.nd rfl (Or.inl rfl) (pe_ifExp (pt_val (pe_callG (G__law_is_less.mono (by decide)) hr hgd (by rfl) g__law_is_less F__law_is_less.kp b__law_is_less (pa_cons (pv 2) (pa_cons (pv 5) pa_nil)))) (pv 5) (pv 2))))))
 (pss_one (ps_ret (pv 2))))), (by (try dsimp only [cxOf]); exact inferInstance), ?_⟩⟩
  intro xs μ Q hS
  obtain ⟨_, m, n, a, b, rfl, ha, hb, hz, hl, hQ⟩ := hS
  rw [show startP N__law_greatest [tabP a, tabP b] = [some (tabP a), some (tabP b), none, none, none, none] from rfl]
  have hsb := dls_sb hl ha hb
  refine stm_of fun R hR => ?_
  simp only [mBits, mEnumC, pSortX, mDNewT, mZipM, mDc, mLenSetL, mDGetT, mDGet2T, mDInT, mDPutT, mLockX, mLockEX, mKeysX, pLstX, pLenX, pMaxT, pSortT, str_to, str_ot, mPar3, mLockV, mLockE, mItemsC, mKeysC, mDGet2, pIsN, isNonP, pRepLM, mTruD, dkOfP, pPopAt, pIndex, mLstRgM, mTruth, pReprA, pLenD, pLstD, mDNew, pRepL, mLenSetN, mDIn, mSortSet, mSortSetL, mRevT, mForC, mSeqC, mLcC, pAbs, pMax2, pMin2, pInt1, mDGet, mDPut, mBM, mBM0, pPop, pAppend, pExtend, pSetL, mSub, mDisp, mPs, mPs0, mRevL, mRevLM, pLstOfM, mTupRg, mRg1, mRg2, pPlusM, lstItems, dictOfP, keyP, keysP, val_left, val_mixed, val_draws, put_draws, mLc, mLcM, mLc2, mFor, mSeqI, mRng1, mRng2, mZip, mEnum, mSl, mNoPart, mPart, mSeq, mAsg, mAsg2, mCB, mCons, mNil, mVar, mC, mOp, mUn, pU, mTup, mLst, mRet, mRetN, mLstM, getl, setl, mName, mCall, mCallK, mIf, mIfS, mTest, mAnd, mOr, mNot, mYes, mAndV, mOrV, mNotV, mNext, mNever, mBreak, mCont, mDrop, mChain, mPar, mGTup, mGCons, mGNil, pGcd, pI, pI0, pIx, pTimes, pPlus, pEq, pNe, pLen, pSum, pMaxS, pAll, pAny, pTupOf, pLstOf, pIn, pIsB, pIsi, items_tup, items_lst, items_kl, items_mr, items_tab, items_lot, items_fr, decide_true, decide_false, eqP_int, eqP_bl, eqP_str, eqP_tup2, kit_tt, kit_ii, kit_ib, tyP, mEnd, wipeP, List.map_cons, List.map_nil, List.getElem?_cons_zero, List.getElem?_cons_succ, List.set_cons_zero, List.set_cons_succ, atI_zero, atI_one, if_true, if_false, ite_true, ite_false, Bool.false_eq_true, List.length_cons, List.length_nil, Bool.not_true, Bool.not_false]
  refine ⟨by decide, ?_⟩
  subst hR
  refine stm_of fun R1 hR1 => ?_
  simp only [mBits, mEnumC, pSortX, mDNewT, mZipM, mDc, mLenSetL, mDGetT, mDGet2T, mDInT, mDPutT, mLockX, mLockEX, mKeysX, pLstX, pLenX, pMaxT, pSortT, str_to, str_ot, mPar3, mLockV, mLockE, mItemsC, mKeysC, mDGet2, pIsN, isNonP, pRepLM, mTruD, dkOfP, pPopAt, pIndex, mLstRgM, mTruth, pReprA, pLenD, pLstD, mDNew, pRepL, mLenSetN, mDIn, mSortSet, mSortSetL, mRevT, mForC, mSeqC, mLcC, pAbs, pMax2, pMin2, pInt1, mDGet, mDPut, mBM, mBM0, pPop, pAppend, pExtend, pSetL, mSub, mDisp, mPs, mPs0, mRevL, mRevLM, pLstOfM, mTupRg, mRg1, mRg2, pPlusM, lstItems, dictOfP, keyP, keysP, val_left, val_mixed, val_draws, put_draws, mLc, mLcM, mLc2, mFor, mSeqI, mRng1, mRng2, mZip, mEnum, mSl, mNoPart, mPart, mAsg, mAsg2, mCB, mCons, mNil, mVar, mC, mOp, mUn, pU, mTup, mLst, mRet, mRetN, mLstM, getl, setl, mName, mCall, mCallK, mIf, mIfS, mTest, mAnd, mOr, mNot, mYes, mAndV, mOrV, mNotV, mNext, mNever, mBreak, mCont, mDrop, mChain, mPar, mGTup, mGCons, mGNil, pGcd, pI, pI0, pIx, pTimes, pPlus, pEq, pNe, pLen, pSum, pMaxS, pAll, pAny, pTupOf, pLstOf, pIn, pIsB, pIsi, items_tup, items_lst, items_kl, items_mr, items_tab, items_lot, items_fr, decide_true, decide_false, eqP_int, eqP_bl, eqP_str, eqP_tup2, kit_tt, kit_ii, kit_ib, tyP, mEnd, wipeP, List.map_cons, List.map_nil, List.getElem?_cons_zero, List.getElem?_cons_succ, List.set_cons_zero, List.set_cons_succ, atI_zero, atI_one, if_true, if_false, ite_true, ite_false, Bool.false_eq_true, List.length_cons, List.length_nil, Bool.not_true, Bool.not_false, tabP]
  rw [zipP_map]
  refine for_inv (enc := fun p : Rat × Rat => .tup [frP p.1, frP p.2]) (fun pre ρ μ' => (∃ y3 y4 y5 : Option PV, ρ = [some (.tup (a.map frP)), some (.tup (b.map frP)), some (frP (gmx (pre.map fun p => rab (p.1 - p.2)))), y3, y4, y5]) ∧ μ' = μ) (done := []) ⟨⟨_, _, _, rfl⟩, rfl⟩ (fun pre p post ρ μ' e hI N hN => ?_) fun ρ μ' hI => ?_
  · obtain ⟨⟨y3, y4, y5, rfl⟩, rfl⟩ := hI
    have e' : a.zip b = pre ++ p :: post := e
    have hp2 := List.of_mem_zip (a := p.1) (b := p.2) (show (p.1, p.2) ∈ a.zip b by rw [e']; simp)
    have s1 := (ha.sm hp2.1).mono (show m + 1 ≤ 4000 by omega)
    have s2 := (hb.sm hp2.2).mono (show n + 1 ≤ 4000 by omega)
    have hd : dls a b = (pre.map fun p => rab (p.1 - p.2)) ++ rab (p.1 - p.2) :: post.map fun p => rab (p.1 - p.2) := by unfold dls; rw [e', List.map_append, List.map_cons]
    have sx : Sm 4000 (rab (p.1 - p.2)) := (hsb.mem_sm (by rw [hd]; simp)).mono (by omega)
    have sg : Sm 4000 (gmx (pre.map fun p => rab (p.1 - p.2))) := gmx_sm (fun x hx => (hsb.mem_sm (by rw [hd]; exact List.mem_append_left _ hx)).mono (by omega)) (by decide)
    have key : ∀ y3 y4 y5, N [some (.tup (a.map frP)), some (.tup (b.map frP)), some (frP (if gmx (pre.map fun p => rab (p.1 - p.2)) < rab (p.1 - p.2) then rab (p.1 - p.2) else gmx (pre.map fun p => rab (p.1 - p.2)))), y3, y4, y5] μ' := fun y3 y4 y5 => by
      refine hN _ _ ⟨⟨y3, y4, y5, ?_⟩, rfl⟩
      rw [List.map_append, List.map_cons, List.map_nil, gmx_snoc]
    simp only [mBits, mEnumC, pSortX, mDNewT, mZipM, mDc, mLenSetL, mDGetT, mDGet2T, mDInT, mDPutT, mLockX, mLockEX, mKeysX, pLstX, pLenX, pMaxT, pSortT, str_to, str_ot, mPar3, mLockV, mLockE, mItemsC, mKeysC, mDGet2, pIsN, isNonP, pRepLM, mTruD, dkOfP, pPopAt, pIndex, mLstRgM, mTruth, pReprA, pLenD, pLstD, mDNew, pRepL, mLenSetN, mDIn, mSortSet, mSortSetL, mRevT, mForC, mSeqC, mLcC, pAbs, pMax2, pMin2, pInt1, mDGet, mDPut, mBM, mBM0, pPop, pAppend, pExtend, pSetL, mSub, mDisp, mPs, mPs0, mRevL, mRevLM, pLstOfM, mTupRg, mRg1, mRg2, pPlusM, lstItems, dictOfP, keyP, keysP, val_left, val_mixed, val_draws, put_draws, mLc, mLcM, mLc2, mFor, mSeqI, mRng1, mRng2, mZip, mEnum, mSl, mNoPart, mPart, mAsg, mAsg2, mCB, mCons, mNil, mVar, mC, mOp, mUn, pU, mTup, mLst, mRet, mRetN, mLstM, getl, setl, mName, mCall, mCallK, mIf, mIfS, mTest, mAnd, mOr, mNot, mYes, mAndV, mOrV, mNotV, mNext, mNever, mBreak, mCont, mDrop, mChain, mPar, mGTup, mGCons, mGNil, pGcd, pI, pI0, pIx, pTimes, pPlus, pEq, pNe, pLen, pSum, pMaxS, pAll, pAny, pTupOf, pLstOf, pIn, pIsB, pIsi, items_tup, items_lst, items_kl, items_mr, items_tab, items_lot, items_fr, decide_true, decide_false, eqP_int, eqP_bl, eqP_str, eqP_tup2, kit_tt, kit_ii, kit_ib, tyP, mEnd, wipeP, List.map_cons, List.map_nil, List.getElem?_cons_zero, List.getElem?_cons_succ, List.set_cons_zero, List.set_cons_succ, atI_zero, atI_one, if_true, if_false, ite_true, ite_false, Bool.false_eq_true, List.length_cons, List.length_nil, Bool.not_true, Bool.not_false]
    refine ⟨trivial, ?_⟩
    refine stm_of fun R2 hR2 => ?_
    have h2 : R2 [some (.tup (a.map frP)), some (.tup (b.map frP)), some (frP (gmx (pre.map fun p => rab (p.1 - p.2)))), some (frP p.1), some (frP p.2), some (frP (rab (p.1 - p.2)))] μ' := by
      subst hR2
      simp only [mBits, mEnumC, pSortX, mDNewT, mZipM, mDc, mLenSetL, mDGetT, mDGet2T, mDInT, mDPutT, mLockX, mLockEX, mKeysX, pLstX, pLenX, pMaxT, pSortT, str_to, str_ot, mPar3, mLockV, mLockE, mItemsC, mKeysC, mDGet2, pIsN, isNonP, pRepLM, mTruD, dkOfP, pPopAt, pIndex, mLstRgM, mTruth, pReprA, pLenD, pLstD, mDNew, pRepL, mLenSetN, mDIn, mSortSet, mSortSetL, mRevT, mForC, mSeqC, mLcC, pAbs, pMax2, pMin2, pInt1, mDGet, mDPut, mBM, mBM0, pPop, pAppend, pExtend, pSetL, mSub, mDisp, mPs, mPs0, mRevL, mRevLM, pLstOfM, mTupRg, mRg1, mRg2, pPlusM, lstItems, dictOfP, keyP, keysP, val_left, val_mixed, val_draws, put_draws, mLc, mLcM, mLc2, mFor, mSeqI, mRng1, mRng2, mZip, mEnum, mSl, mNoPart, mPart, mSeq, mAsg, mAsg2, mCB, mCons, mNil, mVar, mC, mOp, mUn, pU, mTup, mLst, mRet, mRetN, mLstM, getl, setl, mName, mCall, mCallK, mIf, mIfS, mTest, mAnd, mOr, mNot, mYes, mAndV, mOrV, mNotV, mNext, mNever, mBreak, mCont, mDrop, mChain, mPar, mGTup, mGCons, mGNil, pGcd, pI, pI0, pIx, pTimes, pPlus, pEq, pNe, pLen, pSum, pMaxS, pAll, pAny, pTupOf, pLstOf, pIn, pIsB, pIsi, items_tup, items_lst, items_kl, items_mr, items_tab, items_lot, items_fr, decide_true, decide_false, eqP_int, eqP_bl, eqP_str, eqP_tup2, kit_tt, kit_ii, kit_ib, tyP, mEnd, wipeP, List.map_cons, List.map_nil, List.getElem?_cons_zero, List.getElem?_cons_succ, List.set_cons_zero, List.set_cons_succ, atI_zero, atI_one, if_true, if_false, ite_true, ite_false, Bool.false_eq_true, List.length_cons, List.length_nil, Bool.not_true, Bool.not_false, S__law_is_less]
      refine ⟨trivial, _, _, rfl, sg, sx, ?_⟩
      have key := key (some (frP p.1)) (some (frP p.2)) (some (frP (rab (p.1 - p.2))))
      by_cases c : gmx (pre.map fun p => rab (p.1 - p.2)) < rab (p.1 - p.2)
      · rw [if_pos c] at key
        rw [decide_eq_true c, if_pos rfl]
        exact key
      · rw [if_neg c] at key
        rw [decide_eq_false c, if_neg (by decide)]
        exact key
    simp only [mBits, mEnumC, pSortX, mDNewT, mZipM, mDc, mLenSetL, mDGetT, mDGet2T, mDInT, mDPutT, mLockX, mLockEX, mKeysX, pLstX, pLenX, pMaxT, pSortT, str_to, str_ot, mPar3, mLockV, mLockE, mItemsC, mKeysC, mDGet2, pIsN, isNonP, pRepLM, mTruD, dkOfP, pPopAt, pIndex, mLstRgM, mTruth, pReprA, pLenD, pLstD, mDNew, pRepL, mLenSetN, mDIn, mSortSet, mSortSetL, mRevT, mForC, mSeqC, mLcC, pAbs, pMax2, pMin2, pInt1, mDGet, mDPut, mBM, mBM0, pPop, pAppend, pExtend, pSetL, mSub, mDisp, mPs, mPs0, mRevL, mRevLM, pLstOfM, mTupRg, mRg1, mRg2, pPlusM, lstItems, dictOfP, keyP, keysP, val_left, val_mixed, val_draws, put_draws, mLc, mLcM, mLc2, mFor, mSeqI, mRng1, mRng2, mZip, mEnum, mSl, mNoPart, mPart, mSeq, mAsg, mAsg2, mCB, mCons, mNil, mVar, mC, mOp, mUn, pU, mTup, mLst, mRet, mRetN, mLstM, getl, setl, mName, mCall, mCallK, mIf, mIfS, mTest, mAnd, mOr, mNot, mYes, mAndV, mOrV, mNotV, mNext, mNever, mBreak, mCont, mDrop, mChain, mPar, mGTup, mGCons, mGNil, pGcd, pI, pI0, pIx, pTimes, pPlus, pEq, pNe, pLen, pSum, pMaxS, pAll, pAny, pTupOf, pLstOf, pIn, pIsB, pIsi, items_tup, items_lst, items_kl, items_mr, items_tab, items_lot, items_fr, decide_true, decide_false, eqP_int, eqP_bl, eqP_str, eqP_tup2, kit_tt, kit_ii, kit_ib, tyP, mEnd, wipeP, List.map_cons, List.map_nil, List.getElem?_cons_zero, List.getElem?_cons_succ, List.set_cons_zero, List.set_cons_succ, atI_zero, atI_one, if_true, if_false, ite_true, ite_false, Bool.false_eq_true, List.length_cons, List.length_nil, Bool.not_true, Bool.not_false, S__law_is_less, S__law_minus]
    refine ⟨trivial, _, _, rfl, s2, s1, ?_⟩
    by_cases c : p.2 < p.1
    · rw [decide_eq_true c, if_pos rfl]
      have e9 : p.1 - p.2 = rab (p.1 - p.2) := by rw [← rab_if, if_pos c]
      refine ⟨trivial, _, _, rfl, s1, s2, ?_⟩
      rw [e9]
      exact h2
    · rw [decide_eq_false c, if_neg (by decide)]
      have e9 : p.2 - p.1 = rab (p.1 - p.2) := by rw [← rab_if, if_neg c]
      refine ⟨trivial, _, _, rfl, s2, s1, ?_⟩
      rw [e9]
      exact h2
  · obtain ⟨⟨y3, y4, y5, rfl⟩, rfl⟩ := hI
    rw [List.nil_append]
    show R1 _ _
    subst hR1
    simp only [mBits, mEnumC, pSortX, mDNewT, mZipM, mDc, mLenSetL, mDGetT, mDGet2T, mDInT, mDPutT, mLockX, mLockEX, mKeysX, pLstX, pLenX, pMaxT, pSortT, str_to, str_ot, mPar3, mLockV, mLockE, mItemsC, mKeysC, mDGet2, pIsN, isNonP, pRepLM, mTruD, dkOfP, pPopAt, pIndex, mLstRgM, mTruth, pReprA, pLenD, pLstD, mDNew, pRepL, mLenSetN, mDIn, mSortSet, mSortSetL, mRevT, mForC, mSeqC, mLcC, pAbs, pMax2, pMin2, pInt1, mDGet, mDPut, mBM, mBM0, pPop, pAppend, pExtend, pSetL, mSub, mDisp, mPs, mPs0, mRevL, mRevLM, pLstOfM, mTupRg, mRg1, mRg2, pPlusM, lstItems, dictOfP, keyP, keysP, val_left, val_mixed, val_draws, put_draws, mLc, mLcM, mLc2, mFor, mSeqI, mRng1, mRng2, mZip, mEnum, mSl, mNoPart, mPart, mSeq, mAsg, mAsg2, mCB, mCons, mNil, mVar, mC, mOp, mUn, pU, mTup, mLst, mRet, mRetN, mLstM, getl, setl, mName, mCall, mCallK, mIf, mIfS, mTest, mAnd, mOr, mNot, mYes, mAndV, mOrV, mNotV, mNext, mNever, mBreak, mCont, mDrop, mChain, mPar, mGTup, mGCons, mGNil, pGcd, pI, pI0, pIx, pTimes, pPlus, pEq, pNe, pLen, pSum, pMaxS, pAll, pAny, pTupOf, pLstOf, pIn, pIsB, pIsi, items_tup, items_lst, items_kl, items_mr, items_tab, items_lot, items_fr, decide_true, decide_false, eqP_int, eqP_bl, eqP_str, eqP_tup2, kit_tt, kit_ii, kit_ib, tyP, mEnd, wipeP, List.map_cons, List.map_nil, List.getElem?_cons_zero, List.getElem?_cons_succ, List.set_cons_zero, List.set_cons_succ, atI_zero, atI_one, if_true, if_false, ite_true, ite_false, Bool.false_eq_true, List.length_cons, List.length_nil, Bool.not_true, Bool.not_false]
    exact fin_keep hQ
abbrev N__law_is_nearest : List Str := ["_law_table_here", "_law_t", "_law_other", "_law_some", "_law_given", "_law_left", "_law_parts", "_law_rest", "_law_top", "_law_bottom", "_law_more", "_law_it"]
theorem sc__law_is_nearest : FnScope N__law_is_nearest ["_law_table_here", "_law_t", "_law_other"] (defScope s__law_is_nearest) := ⟨rfl, rfl, rfl, by decide +kernel, rfl, by decide +kernel, by decide +kernel⟩
theorem ok__law_is_nearest (B : Blt mg) (h__law_is_nearest : Own K mg "_law_is_nearest" s__law_is_nearest) (k__law_whole_parts : Ok P w K mg base 3 "_law_whole_parts" s__law_whole_parts ["_law_table_here", "_law_t"] S__law_whole_parts) (k__law_is_less : Ok P w K mg base 1 "_law_is_less" s__law_is_less ["_law_one", "_law_other"] S__law_is_less) : Ok P w K mg base 4 "_law_is_nearest" s__law_is_nearest ["_law_table_here", "_law_t", "_law_other"] S__law_is_nearest := by
  obtain ⟨f_s, fd_s, F_s, g_s⟩ := h__law_is_nearest
  obtain ⟨f__law_whole_parts, fd__law_whole_parts, F__law_whole_parts, g__law_whole_parts, b__law_whole_parts, G__law_whole_parts⟩ := k__law_whole_parts
  obtain ⟨f__law_is_less, fd__law_is_less, F__law_is_less, g__law_is_less, b__law_is_less, G__law_is_less⟩ := k__law_is_less
  refine ⟨f_s, fd_s, F_s, g_s, F_s.binds (fun _ _ _ _ _ _ us hl => match us, hl with | [_, _, _], _ => rfl), FnG.of F_s sc__law_is_nearest (fun xs μ Q h => by first | exact h.1 | exact h.2.1 | (obtain ⟨⟩ := h)) fun cdv A outer s H hr hgd => ⟨_, _, (pss_cons (ps_asg (pe_tup (pa_cons (pe_callG (G__law_whole_parts.mono (by decide)) hr hgd (by rfl) g__law_whole_parts F__law_whole_parts.kp b__law_whole_parts (pa_cons (pv 0) (pa_cons (pv 1) pa_nil))) (pa_cons (peLM (pe_lst pa_nil)) (pa_cons (peLM (pe_lst pa_nil)) pa_nil)))) (pg_tup (n := 3) rfl (pgs_cons (pg_name (i := 3) sc__law_is_nearest.nd rfl (Or.inl rfl)) (pgs_cons (pg_name (i := 4) sc__law_is_nearest.nd rfl (Or.inl rfl)) (pgs_cons (pg_name (i := 5) sc__law_is_nearest.nd rfl (Or.inr rfl)) pgs_nil)))))
 (pss_cons (ps_for PassesOwn.never rfl (pi_zipM (by rfl) (B "zip" (by decide)) (pa_cons (pv 3) (pa_cons (pv 2) pa_nil))) (pg_tup (n := 2) rfl (pgs_cons (pg_tup (n := 2) rfl (pgs_cons (pg_name (i := 6) sc__law_is_nearest.nd rfl (Or.inl rfl)) (pgs_cons (pg_name (i := 7) sc__law_is_nearest.nd rfl (Or.inl rfl)) pgs_nil))) (pgs_cons (pg_tup (n := 2) rfl (pgs_cons (pg_name (i := 8) sc__law_is_nearest.nd rfl (Or.inl rfl)) (pgs_cons (pg_name (i := 9) sc__law_is_nearest.nd rfl (Or.inl rfl)) pgs_nil))) pgs_nil)))
 (pss_cons (ps_set (i := 10) sc__law_is_nearest.nd rfl (Or.inl rfl) (pe_op op_sub (pe_op op_divX (pe_op op_shlW (pv 8) (pv 1)) (pv 9)) (pv 6)))
 (pss_cons (ps_if (pt_cmpR op_notIn_seq (pv 10) (pe_tup (pa_cons pe_int (pa_cons pe_int pa_nil))) (by with_unfolding_all rfl))
 (pss_one (ps_ret pe_bl))
 pss_nil)
 (pss_one (ps_if (pt_cmpR (op_eqX hr.units) (pv 10) pe_int (nomark _))
 (pss_one (ps_expr (pe_bm PySem.F.plainAttrs_list PySem.F.slot_list_append PySem.F.type_list_append mt_append (pv 4) (pa_cons (pv 7) pa_nil))))
 (pss_one (ps_expr (pe_bm PySem.F.plainAttrs_list PySem.F.slot_list_append PySem.F.type_list_append mt_append (pv 5) (pa_cons (pv 7) pa_nil)))))))))
 (pss_one (ps_ret (pe_cmpR (op_eqX hr.units) (pe_lc (own := [("_law_it", 11)]) (by rfl) sc__law_is_nearest.nd (pi_seqM (pv 4)) (blkOk_by (own := [("_law_it", 11)]) (N := N__law_is_nearest) (sc := defScope s__law_is_nearest) (by decide +kernel)) (fun _ _ _ _ _ => (pg_name (i := 11) sc__law_is_nearest.nd rfl (Or.inr rfl))) (fun _ _ _ _ _ => pts_one (pt_cmpR (opk_neX K rfl hr.units) (pe_lc (own := [("_law_rest", 7)]) (by rfl) sc__law_is_nearest.nd (pik_seqM K rfl (pv 5)) (blkN N__law_is_nearest (defScope s__law_is_nearest) rfl rfl (by decide +kernel)) (fun _ _ _ _ _ => (pg_name (i := 7) sc__law_is_nearest.nd rfl (Or.inl rfl))) (fun _ _ _ _ _ => pts_one (pt_val (pek_call K rfl (G__law_is_less.mono (by decide)) hr hgd (by rfl) g__law_is_less F__law_is_less.kp b__law_is_less (pa_cons (pv 11) (pa_cons (pv 7) pa_nil))))) (fun _ _ _ _ _ => pe_int)) (pe_lst pa_nil) (nomark _))) (fun _ _ _ _ _ => pe_int)) (pe_lst pa_nil) (nomark _)))))), (by (try dsimp only [cxOf]); exact inferInstance), ?_⟩⟩
  intro xs μ Q hS
  obtain ⟨_, qs, os, t, rfl, hT, hO, ht, ho, hQ⟩ := hS
  rw [show startP N__law_is_nearest [tabP qs, .int t, tabP os] = [some (tabP qs), some (.int t), some (tabP os), none, none, none, none, none, none, none, none, none] from rfl]
  have h8 := hT.len
  refine stm_of fun R hR => ?_
  simp only [mBits, mEnumC, pSortX, mDNewT, mZipM, mDc, mLenSetL, mDGetT, mDGet2T, mDInT, mDPutT, mLockX, mLockEX, mKeysX, pLstX, pLenX, pMaxT, pSortT, str_to, str_ot, mPar3, mLockV, mLockE, mItemsC, mKeysC, mDGet2, pIsN, isNonP, pRepLM, mTruD, dkOfP, pPopAt, pIndex, mLstRgM, mTruth, pReprA, pLenD, pLstD, mDNew, pRepL, mLenSetN, mDIn, mSortSet, mSortSetL, mRevT, mForC, mSeqC, mLcC, pAbs, pMax2, pMin2, pInt1, mDGet, mDPut, mBM, mBM0, pPop, pAppend, pExtend, pSetL, mSub, mDisp, mPs, mPs0, mRevL, mRevLM, pLstOfM, mTupRg, mRg1, mRg2, pPlusM, lstItems, dictOfP, keyP, keysP, val_left, val_mixed, val_draws, put_draws, mLc, mLcM, mLc2, mFor, mSeqI, mRng1, mRng2, mZip, mEnum, mSl, mNoPart, mPart, mSeq, mAsg, mAsg2, mCB, mCons, mNil, mVar, mC, mOp, mUn, pU, mTup, mLst, mRet, mRetN, mLstM, getl, setl, mName, mCall, mCallK, mIf, mIfS, mTest, mAnd, mOr, mNot, mYes, mAndV, mOrV, mNotV, mNext, mNever, mBreak, mCont, mDrop, mChain, mPar, mGTup, mGCons, mGNil, pGcd, pI, pI0, pIx, pTimes, pPlus, pEq, pNe, pLen, pSum, pMaxS, pAll, pAny, pTupOf, pLstOf, pIn, pIsB, pIsi, items_tup, items_lst, items_kl, items_mr, items_tab, items_lot, items_fr, decide_true, decide_false, eqP_int, eqP_bl, eqP_str, eqP_tup2, kit_tt, kit_ii, kit_ib, tyP, mEnd, wipeP, List.map_cons, List.map_nil, List.getElem?_cons_zero, List.getElem?_cons_succ, List.set_cons_zero, List.set_cons_succ, atI_zero, atI_one, if_true, if_false, ite_true, ite_false, Bool.false_eq_true, List.length_cons, List.length_nil, Bool.not_true, Bool.not_false, S__law_whole_parts]
  refine ⟨trivial, qs, t, rfl, hT, ht, by decide, by decide, by decide, trivial, ?_⟩
  have hlen1 : (μ ++ [MO.lst []]).length = μ.length + 1 := by rw [List.length_append]; rfl
  rw [hlen1]
  subst hR
  refine stm_of fun R hR => ?_
  simp only [mBits, mEnumC, pSortX, mDNewT, mZipM, mDc, mLenSetL, mDGetT, mDGet2T, mDInT, mDPutT, mLockX, mLockEX, mKeysX, pLstX, pLenX, pMaxT, pSortT, str_to, str_ot, mPar3, mLockV, mLockE, mItemsC, mKeysC, mDGet2, pIsN, isNonP, pRepLM, mTruD, dkOfP, pPopAt, pIndex, mLstRgM, mTruth, pReprA, pLenD, pLstD, mDNew, pRepL, mLenSetN, mDIn, mSortSet, mSortSetL, mRevT, mForC, mSeqC, mLcC, pAbs, pMax2, pMin2, pInt1, mDGet, mDPut, mBM, mBM0, pPop, pAppend, pExtend, pSetL, mSub, mDisp, mPs, mPs0, mRevL, mRevLM, pLstOfM, mTupRg, mRg1, mRg2, pPlusM, lstItems, dictOfP, keyP, keysP, val_left, val_mixed, val_draws, put_draws, mLc, mLcM, mLc2, mFor, mSeqI, mRng1, mRng2, mZip, mEnum, mSl, mNoPart, mPart, mAsg, mAsg2, mCB, mCons, mNil, mVar, mC, mOp, mUn, pU, mTup, mLst, mRet, mRetN, mLstM, getl, setl, mName, mCall, mCallK, mIf, mIfS, mTest, mAnd, mOr, mNot, mYes, mAndV, mOrV, mNotV, mNext, mNever, mBreak, mCont, mDrop, mChain, mPar, mGTup, mGCons, mGNil, pGcd, pI, pI0, pIx, pTimes, pPlus, pEq, pNe, pLen, pSum, pMaxS, pAll, pAny, pTupOf, pLstOf, pIn, pIsB, pIsi, items_tup, items_lst, items_kl, items_mr, items_tab, items_lot, items_fr, decide_true, decide_false, eqP_int, eqP_bl, eqP_str, eqP_tup2, kit_tt, kit_ii, kit_ib, tyP, mEnd, wipeP, List.map_cons, List.map_nil, List.getElem?_cons_zero, List.getElem?_cons_succ, List.set_cons_zero, List.set_cons_succ, atI_zero, atI_one, if_true, if_false, ite_true, ite_false, Bool.false_eq_true, List.length_cons, List.length_nil, Bool.not_true, Bool.not_false, tabP]
  rw [zipP_map2]
  have hw : ∀ x ∈ qs.zip os, Whl t x.2 := fun x hx => ho.2.2 _ (List.of_mem_zip (a := x.1) (b := x.2) hx).2
  have hoden : ∀ o ∈ os, o.den < 2 ^ 44 := fun q hq => by
    obtain ⟨D, d0, d1, d2⟩ := hO.com
    exact Nat.lt_of_le_of_lt (Nat.le_of_dvd d0 (cm_den (d2 q hq))) d1
  have hqden : ∀ o ∈ qs, o.den < 2 ^ 44 := fun q hq => by
    obtain ⟨D, d0, d1, d2⟩ := hT.com
    exact Nat.lt_of_le_of_lt (Nat.le_of_dvd d0 (cm_den (d2 q hq))) d1
  have honum : ∀ o ∈ os, o.num.natAbs < 2 ^ 45 := fun q hq => (hO.sm hq).1
  have hzl : (qs.zip os).length ≤ 8 := by rw [List.length_zip]; omega
  refine for_inv (enc := fun p : Rat × Rat => .tup [wpP t p.1, frP p.2]) (fun pre ρ μ' => (∃ y6 y7 y8 y9 y10 : Option PV, ρ = [some (.tup (qs.map frP)), some (.int (t : Nat)), some (.tup (os.map frP)), some (.lst (qs.map (wpP t))), some (.mr μ.length), some (.mr (μ.length + 1)), y6, y7, y8, y9, y10, none] ∧ ∀ x ∈ pre, givI t x = true ∨ lefI t x = true) ∧ μ' = μ ++ [.lst ((pre.filter (givI t)).map fun x => frP (rsd x.1 t))] ++ [.lst ((pre.filter (lefI t)).map fun x => frP (rsd x.1 t))]) (done := []) ⟨⟨_, _, _, _, _, rfl, by simp⟩, rfl⟩ (fun pre x post ρ μ' e hI N hN => ?_) fun ρ μ' hI => ?_
  · obtain ⟨⟨y6, y7, y8, y9, y10, rfl, h2⟩, rfl⟩ := hI
    have e' : qs.zip os = pre ++ x :: post := e
    have hx : x ∈ qs.zip os := by rw [e']; simp
    have hm := List.of_mem_zip (a := x.1) (b := x.2) hx
    have hpl : pre.length ≤ 8 := by rw [e', List.length_append] at hzl; omega
    have hgf := giv_flr (hw x hx)
    have hlf := lef_flr (hw x hx)
    have fl1 : (pre.filter (givI t)).length ≤ 8 := Nat.le_trans (List.length_filter_le _ _) hpl
    have fl2 : (pre.filter (lefI t)).length ≤ 8 := Nat.le_trans (List.length_filter_le _ _) hpl
    simp only [mBits, mEnumC, pSortX, mDNewT, mZipM, mDc, mLenSetL, mDGetT, mDGet2T, mDInT, mDPutT, mLockX, mLockEX, mKeysX, pLstX, pLenX, pMaxT, pSortT, str_to, str_ot, mPar3, mLockV, mLockE, mItemsC, mKeysC, mDGet2, pIsN, isNonP, pRepLM, mTruD, dkOfP, pPopAt, pIndex, mLstRgM, mTruth, pReprA, pLenD, pLstD, mDNew, pRepL, mLenSetN, mDIn, mSortSet, mSortSetL, mRevT, mForC, mSeqC, mLcC, pAbs, pMax2, pMin2, pInt1, mDGet, mDPut, mBM, mBM0, pPop, pAppend, pExtend, pSetL, mSub, mDisp, mPs, mPs0, mRevL, mRevLM, pLstOfM, mTupRg, mRg1, mRg2, pPlusM, lstItems, dictOfP, keyP, keysP, val_left, val_mixed, val_draws, put_draws, mLc, mLcM, mLc2, mFor, mSeqI, mRng1, mRng2, mZip, mEnum, mSl, mNoPart, mPart, mAsg, mAsg2, mCB, mCons, mNil, mVar, mC, mOp, mUn, pU, mTup, mLst, mRet, mRetN, mLstM, getl, setl, mName, mCall, mCallK, mIf, mIfS, mTest, mAnd, mOr, mNot, mYes, mAndV, mOrV, mNotV, mNext, mNever, mBreak, mCont, mDrop, mChain, mPar, mGTup, mGCons, mGNil, pGcd, pI, pI0, pIx, pTimes, pPlus, pEq, pNe, pLen, pSum, pMaxS, pAll, pAny, pTupOf, pLstOf, pIn, pIsB, pIsi, items_tup, items_lst, items_kl, items_mr, items_tab, items_lot, items_fr, decide_true, decide_false, eqP_int, eqP_bl, eqP_str, eqP_tup2, kit_tt, kit_ii, kit_ib, tyP, mEnd, wipeP, List.map_cons, List.map_nil, List.getElem?_cons_zero, List.getElem?_cons_succ, List.set_cons_zero, List.set_cons_succ, atI_zero, atI_one, if_true, if_false, ite_true, ite_false, Bool.false_eq_true, List.length_cons, List.length_nil, Bool.not_true, Bool.not_false, wpP, frP]
    refine ⟨trivial, trivial, trivial, ?_⟩
    simp only [frP_fold]
    refine stm_of fun R2 hR2 => ?_
    simp only [mBits, mEnumC, pSortX, mDNewT, mZipM, mDc, mLenSetL, mDGetT, mDGet2T, mDInT, mDPutT, mLockX, mLockEX, mKeysX, pLstX, pLenX, pMaxT, pSortT, str_to, str_ot, mPar3, mLockV, mLockE, mItemsC, mKeysC, mDGet2, pIsN, isNonP, pRepLM, mTruD, dkOfP, pPopAt, pIndex, mLstRgM, mTruth, pReprA, pLenD, pLstD, mDNew, pRepL, mLenSetN, mDIn, mSortSet, mSortSetL, mRevT, mForC, mSeqC, mLcC, pAbs, pMax2, pMin2, pInt1, mDGet, mDPut, mBM, mBM0, pPop, pAppend, pExtend, pSetL, mSub, mDisp, mPs, mPs0, mRevL, mRevLM, pLstOfM, mTupRg, mRg1, mRg2, pPlusM, lstItems, dictOfP, keyP, keysP, val_left, val_mixed, val_draws, put_draws, mLc, mLcM, mLc2, mFor, mSeqI, mRng1, mRng2, mZip, mEnum, mSl, mNoPart, mPart, mSeq, mAsg, mAsg2, mCB, mCons, mNil, mVar, mC, mOp, mUn, pU, mTup, mLst, mRet, mRetN, mLstM, getl, setl, mName, mCall, mCallK, mIf, mIfS, mTest, mAnd, mOr, mNot, mYes, mAndV, mOrV, mNotV, mNext, mNever, mBreak, mCont, mDrop, mChain, mPar, mGTup, mGCons, mGNil, pGcd, pI, pI0, pIx, pTimes, pPlus, pEq, pNe, pLen, pSum, pMaxS, pAll, pAny, pTupOf, pLstOf, pIn, pIsB, pIsi, items_tup, items_lst, items_kl, items_mr, items_tab, items_lot, items_fr, decide_true, decide_false, eqP_int, eqP_bl, eqP_str, eqP_tup2, kit_tt, kit_ii, kit_ib, tyP, mEnd, wipeP, List.map_cons, List.map_nil, List.getElem?_cons_zero, List.getElem?_cons_succ, List.set_cons_zero, List.set_cons_succ, atI_zero, atI_one, if_true, if_false, ite_true, ite_false, Bool.false_eq_true, List.length_cons, List.length_nil, Bool.not_true, Bool.not_false]
    rw [flr_shl]
    refine ⟨shl_ok (honum _ hm.2) (by omega), divN _ x.2.den_pos (hoden _ hm.2), ?_⟩
    generalize hmd : flr x.2 t - flr x.1 t = md at *
    subst hR2
    refine stm_of fun R2 hR2 => ?_
    simp only [mBits, mEnumC, pSortX, mDNewT, mZipM, mDc, mLenSetL, mDGetT, mDGet2T, mDInT, mDPutT, mLockX, mLockEX, mKeysX, pLstX, pLenX, pMaxT, pSortT, str_to, str_ot, mPar3, mLockV, mLockE, mItemsC, mKeysC, mDGet2, pIsN, isNonP, pRepLM, mTruD, dkOfP, pPopAt, pIndex, mLstRgM, mTruth, pReprA, pLenD, pLstD, mDNew, pRepL, mLenSetN, mDIn, mSortSet, mSortSetL, mRevT, mForC, mSeqC, mLcC, pAbs, pMax2, pMin2, pInt1, mDGet, mDPut, mBM, mBM0, pPop, pAppend, pExtend, pSetL, mSub, mDisp, mPs, mPs0, mRevL, mRevLM, pLstOfM, mTupRg, mRg1, mRg2, pPlusM, lstItems, dictOfP, keyP, keysP, val_left, val_mixed, val_draws, put_draws, mLc, mLcM, mLc2, mFor, mSeqI, mRng1, mRng2, mZip, mEnum, mSl, mNoPart, mPart, mSeq, mAsg, mAsg2, mCB, mCons, mNil, mVar, mC, mOp, mUn, pU, mTup, mLst, mRet, mRetN, mLstM, getl, setl, mName, mCall, mCallK, mIf, mIfS, mTest, mAnd, mOr, mNot, mYes, mAndV, mOrV, mNotV, mNext, mNever, mBreak, mCont, mDrop, mChain, mPar, mGTup, mGCons, mGNil, pGcd, pI, pI0, pIx, pTimes, pPlus, pEq, pNe, pLen, pSum, pMaxS, pAll, pAny, pTupOf, pLstOf, pIn, pIsB, pIsi, items_tup, items_lst, items_kl, items_mr, items_tab, items_lot, items_fr, decide_true, decide_false, eqP_int, eqP_bl, eqP_str, eqP_tup2, kit_tt, kit_ii, kit_ib, tyP, mEnd, wipeP, List.map_cons, List.map_nil, List.getElem?_cons_zero, List.getElem?_cons_succ, List.set_cons_zero, List.set_cons_succ, atI_zero, atI_one, if_true, if_false, ite_true, ite_false, Bool.false_eq_true, List.length_cons, List.length_nil, Bool.not_true, Bool.not_false]
    rw [inP01]
    by_cases c0 : md = 0 ∨ md = 1
    · rw [decide_eq_true c0]
      refine ⟨by decide, ⟨rfl, rfl⟩, ?_⟩
      rw [if_neg (by decide)]
      subst hR2
      rcases c0 with rfl | rfl
      · have hg0 : givI t x = false := by rw [hgf]; rfl
        have hl1 : lefI t x = true := by rw [hlf]; rfl
        simp only [mBits, mEnumC, pSortX, mDNewT, mZipM, mDc, mLenSetL, mDGetT, mDGet2T, mDInT, mDPutT, mLockX, mLockEX, mKeysX, pLstX, pLenX, pMaxT, pSortT, str_to, str_ot, mPar3, mLockV, mLockE, mItemsC, mKeysC, mDGet2, pIsN, isNonP, pRepLM, mTruD, dkOfP, pPopAt, pIndex, mLstRgM, mTruth, pReprA, pLenD, pLstD, mDNew, pRepL, mLenSetN, mDIn, mSortSet, mSortSetL, mRevT, mForC, mSeqC, mLcC, pAbs, pMax2, pMin2, pInt1, mDGet, mDPut, mBM, mBM0, pPop, pAppend, pExtend, pSetL, mSub, mDisp, mPs, mPs0, mRevL, mRevLM, pLstOfM, mTupRg, mRg1, mRg2, pPlusM, lstItems, dictOfP, keyP, keysP, val_left, val_mixed, val_draws, put_draws, mLc, mLcM, mLc2, mFor, mSeqI, mRng1, mRng2, mZip, mEnum, mSl, mNoPart, mPart, mSeq, mAsg, mAsg2, mCB, mCons, mNil, mVar, mC, mOp, mUn, pU, mTup, mLst, mRet, mRetN, mLstM, getl, setl, mName, mCall, mCallK, mIf, mIfS, mTest, mAnd, mOr, mNot, mYes, mAndV, mOrV, mNotV, mNext, mNever, mBreak, mCont, mDrop, mChain, mPar, mGTup, mGCons, mGNil, pGcd, pI, pI0, pIx, pTimes, pPlus, pEq, pNe, pLen, pSum, pMaxS, pAll, pAny, pTupOf, pLstOf, pIn, pIsB, pIsi, items_tup, items_lst, items_kl, items_mr, items_tab, items_lot, items_fr, decide_true, decide_false, eqP_int, eqP_bl, eqP_str, eqP_tup2, kit_tt, kit_ii, kit_ib, tyP, mEnd, wipeP, List.map_cons, List.map_nil, List.getElem?_cons_zero, List.getElem?_cons_succ, List.set_cons_zero, List.set_cons_succ, atI_zero, atI_one, if_true, if_false, ite_true, ite_false, Bool.false_eq_true, List.length_cons, List.length_nil, Bool.not_true, Bool.not_false]
        rw [if_neg (by decide), getl2b]
        simp only
        rw [setl2b]
        have eF1 : (pre ++ [x]).filter (givI t) = pre.filter (givI t) := by rw [List.filter_append, List.filter_cons, if_neg (by rw [hg0]; decide), List.filter_nil, List.append_nil]
        have eF2 : (pre ++ [x]).filter (lefI t) = pre.filter (lefI t) ++ [x] := by rw [List.filter_append, List.filter_cons, if_pos hl1, List.filter_nil]
        refine ⟨by rw [List.length_map]; unfold lim; omega, hN _ _ ⟨⟨_, _, _, _, _, rfl, fun y hy => ?_⟩, ?_⟩⟩
        · rcases List.mem_append.mp hy with hy | hy
          · exact h2 y hy
          · rw [List.mem_singleton.mp hy]; exact .inr hl1
        · rw [eF1, eF2, List.map_append]
          rfl
      · have hg1 : givI t x = true := by rw [hgf]; rfl
        have hl0 : lefI t x = false := by rw [hlf]; rfl
        simp only [mBits, mEnumC, pSortX, mDNewT, mZipM, mDc, mLenSetL, mDGetT, mDGet2T, mDInT, mDPutT, mLockX, mLockEX, mKeysX, pLstX, pLenX, pMaxT, pSortT, str_to, str_ot, mPar3, mLockV, mLockE, mItemsC, mKeysC, mDGet2, pIsN, isNonP, pRepLM, mTruD, dkOfP, pPopAt, pIndex, mLstRgM, mTruth, pReprA, pLenD, pLstD, mDNew, pRepL, mLenSetN, mDIn, mSortSet, mSortSetL, mRevT, mForC, mSeqC, mLcC, pAbs, pMax2, pMin2, pInt1, mDGet, mDPut, mBM, mBM0, pPop, pAppend, pExtend, pSetL, mSub, mDisp, mPs, mPs0, mRevL, mRevLM, pLstOfM, mTupRg, mRg1, mRg2, pPlusM, lstItems, dictOfP, keyP, keysP, val_left, val_mixed, val_draws, put_draws, mLc, mLcM, mLc2, mFor, mSeqI, mRng1, mRng2, mZip, mEnum, mSl, mNoPart, mPart, mSeq, mAsg, mAsg2, mCB, mCons, mNil, mVar, mC, mOp, mUn, pU, mTup, mLst, mRet, mRetN, mLstM, getl, setl, mName, mCall, mCallK, mIf, mIfS, mTest, mAnd, mOr, mNot, mYes, mAndV, mOrV, mNotV, mNext, mNever, mBreak, mCont, mDrop, mChain, mPar, mGTup, mGCons, mGNil, pGcd, pI, pI0, pIx, pTimes, pPlus, pEq, pNe, pLen, pSum, pMaxS, pAll, pAny, pTupOf, pLstOf, pIn, pIsB, pIsi, items_tup, items_lst, items_kl, items_mr, items_tab, items_lot, items_fr, decide_true, decide_false, eqP_int, eqP_bl, eqP_str, eqP_tup2, kit_tt, kit_ii, kit_ib, tyP, mEnd, wipeP, List.map_cons, List.map_nil, List.getElem?_cons_zero, List.getElem?_cons_succ, List.set_cons_zero, List.set_cons_succ, atI_zero, atI_one, if_true, if_false, ite_true, ite_false, Bool.false_eq_true, List.length_cons, List.length_nil, Bool.not_true, Bool.not_false]
        rw [getl2a]
        simp only
        rw [setl2a]
        have eF1 : (pre ++ [x]).filter (givI t) = pre.filter (givI t) ++ [x] := by rw [List.filter_append, List.filter_cons, if_pos hg1, List.filter_nil]
        have eF2 : (pre ++ [x]).filter (lefI t) = pre.filter (lefI t) := by rw [List.filter_append, List.filter_cons, if_neg (by rw [hl0]; decide), List.filter_nil, List.append_nil]
        refine ⟨by rw [List.length_map]; unfold lim; omega, hN _ _ ⟨⟨_, _, _, _, _, rfl, fun y hy => ?_⟩, ?_⟩⟩
        · rcases List.mem_append.mp hy with hy | hy
          · exact h2 y hy
          · rw [List.mem_singleton.mp hy]; exact .inl hg1
        · rw [eF1, eF2, List.map_append]
          rfl
    · rw [decide_eq_false c0]
      refine ⟨by decide, ⟨rfl, rfl⟩, ?_⟩
      rw [if_pos (by decide)]
      have hb : (false = true) ↔ NrB t qs os := by
        refine ⟨fun z => Bool.noConfusion z, fun z => ?_⟩
        rcases z.two x hx with g | l
        · rw [hgf] at g
          exact absurd (.inr (of_decide_eq_true g)) c0
        · rw [hlf] at l
          exact absurd (.inl (of_decide_eq_true l)) c0
      have := hQ false hb
      rw [List.append_assoc]
      exact fin_drop rfl this
  · obtain ⟨⟨y6, y7, y8, y9, y10, rfl, h2⟩, rfl⟩ := hI
    rw [List.nil_append] at h2 ⊢
    show R _ _
    subst hR
    simp only [mBits, mEnumC, pSortX, mDNewT, mZipM, mDc, mLenSetL, mDGetT, mDGet2T, mDInT, mDPutT, mLockX, mLockEX, mKeysX, pLstX, pLenX, pMaxT, pSortT, str_to, str_ot, mPar3, mLockV, mLockE, mItemsC, mKeysC, mDGet2, pIsN, isNonP, pRepLM, mTruD, dkOfP, pPopAt, pIndex, mLstRgM, mTruth, pReprA, pLenD, pLstD, mDNew, pRepL, mLenSetN, mDIn, mSortSet, mSortSetL, mRevT, mForC, mSeqC, mLcC, pAbs, pMax2, pMin2, pInt1, mDGet, mDPut, mBM, mBM0, pPop, pAppend, pExtend, pSetL, mSub, mDisp, mPs, mPs0, mRevL, mRevLM, pLstOfM, mTupRg, mRg1, mRg2, pPlusM, lstItems, dictOfP, keyP, keysP, val_left, val_mixed, val_draws, put_draws, mLc, mLcM, mLc2, mFor, mSeqI, mRng1, mRng2, mZip, mEnum, mSl, mNoPart, mPart, mSeq, mAsg, mAsg2, mCB, mCons, mNil, mVar, mC, mOp, mUn, pU, mTup, mLst, mRet, mRetN, mLstM, getl, setl, mName, mCall, mCallK, mIf, mIfS, mTest, mAnd, mOr, mNot, mYes, mAndV, mOrV, mNotV, mNext, mNever, mBreak, mCont, mDrop, mChain, mPar, mGTup, mGCons, mGNil, pGcd, pI, pI0, pIx, pTimes, pPlus, pEq, pNe, pLen, pSum, pMaxS, pAll, pAny, pTupOf, pLstOf, pIn, pIsB, pIsi, items_tup, items_lst, items_kl, items_mr, items_tab, items_lot, items_fr, decide_true, decide_false, eqP_int, eqP_bl, eqP_str, eqP_tup2, kit_tt, kit_ii, kit_ib, tyP, mEnd, wipeP, List.map_cons, List.map_nil, List.getElem?_cons_zero, List.getElem?_cons_succ, List.set_cons_zero, List.set_cons_succ, atI_zero, atI_one, if_true, if_false, ite_true, ite_false, Bool.false_eq_true, List.length_cons, List.length_nil, Bool.not_true, Bool.not_false]
    rw [getl2a]
    have fl1 : ((qs.zip os).filter (givI t)).length ≤ 8 := Nat.le_trans (List.length_filter_le _ _) hzl
    have fl2 : ((qs.zip os).filter (lefI t)).length ≤ 8 := Nat.le_trans (List.length_filter_le _ _) hzl
    have hrs : ∀ x ∈ qs.zip os, Sm 4000 (rsd x.1 t) := fun x hx => (rsd_sm (hqden _ (List.of_mem_zip (a := x.1) (b := x.2) hx).1)).mono (by decide)
    refine ⟨by decide, ?_⟩
    simp only
    have eG : (((qs.zip os).filter (givI t)).map fun x => frP (rsd x.1 t)) = (((qs.zip os).filter (givI t)).map fun x => rsd x.1 t).map frP := by rw [List.map_map]; rfl
    have eL : (((qs.zip os).filter (lefI t)).map fun x => frP (rsd x.1 t)) = (((qs.zip os).filter (lefI t)).map fun x => rsd x.1 t).map frP := by rw [List.map_map]; rfl
    have sG : ∀ r ∈ ((qs.zip os).filter (givI t)).map fun x => rsd x.1 t, Sm 4000 r := fun r hr => by
      obtain ⟨x, hx, rfl⟩ := List.mem_map.mp hr
      exact hrs x (List.mem_filter.mp hx).1
    have sL : ∀ r ∈ ((qs.zip os).filter (lefI t)).map fun x => rsd x.1 t, Sm 4000 r := fun r hr => by
      obtain ⟨x, hx, rfl⟩ := List.mem_map.mp hr
      exact hrs x (List.mem_filter.mp hx).1
    have hdec := fun b hb => nrb_dec h2 (b := b) hb
    have gl : (((qs.zip os).filter (givI t)).map fun x => rsd x.1 t).length ≤ 8 := by rw [List.length_map]; exact fl1
    have ll : (((qs.zip os).filter (lefI t)).map fun x => rsd x.1 t).length ≤ 8 := by rw [List.length_map]; exact fl2
    rw [eG, eL]
    generalize (((qs.zip os).filter (givI t)).map fun x => rsd x.1 t) = G at *
    generalize (((qs.zip os).filter (lefI t)).map fun x => rsd x.1 t) = L at *
    refine ⟨by rw [List.length_map]; unfold lim; omega, lcC_filter (enc := frP) (out := fun _ => PV.int 1) (p := fun g => decide ((L.filter fun r => decide (g < r)) ≠ [])) (getl2a _ _ _) (fun g hg k2 nn h1 hn2 => ?_) ?_⟩
    · simp only [mBits, mEnumC, pSortX, mDNewT, mZipM, mDc, mLenSetL, mDGetT, mDGet2T, mDInT, mDPutT, mLockX, mLockEX, mKeysX, pLstX, pLenX, pMaxT, pSortT, str_to, str_ot, mPar3, mLockV, mLockE, mItemsC, mKeysC, mDGet2, pIsN, isNonP, pRepLM, mTruD, dkOfP, pPopAt, pIndex, mLstRgM, mTruth, pReprA, pLenD, pLstD, mDNew, pRepL, mLenSetN, mDIn, mSortSet, mSortSetL, mRevT, mForC, mSeqC, mLcC, pAbs, pMax2, pMin2, pInt1, mDGet, mDPut, mBM, mBM0, pPop, pAppend, pExtend, pSetL, mSub, mDisp, mPs, mPs0, mRevL, mRevLM, pLstOfM, mTupRg, mRg1, mRg2, pPlusM, lstItems, dictOfP, keyP, keysP, val_left, val_mixed, val_draws, put_draws, mLc, mLcM, mLc2, mFor, mSeqI, mRng1, mRng2, mZip, mEnum, mSl, mNoPart, mPart, mSeq, mAsg, mAsg2, mCB, mCons, mNil, mVar, mC, mOp, mUn, pU, mTup, mLst, mRet, mRetN, mLstM, getl, setl, mName, mCall, mCallK, mIf, mIfS, mTest, mAnd, mOr, mNot, mYes, mAndV, mOrV, mNotV, mNext, mNever, mBreak, mCont, mDrop, mChain, mPar, mGTup, mGCons, mGNil, pGcd, pI, pI0, pIx, pTimes, pPlus, pEq, pNe, pLen, pSum, pMaxS, pAll, pAny, pTupOf, pLstOf, pIn, pIsB, pIsi, items_tup, items_lst, items_kl, items_mr, items_tab, items_lot, items_fr, decide_true, decide_false, eqP_int, eqP_bl, eqP_str, eqP_tup2, kit_tt, kit_ii, kit_ib, tyP, mEnd, wipeP, List.map_cons, List.map_nil, List.getElem?_cons_zero, List.getElem?_cons_succ, List.set_cons_zero, List.set_cons_succ, atI_zero, atI_one, if_true, if_false, ite_true, ite_false, Bool.false_eq_true, List.length_cons, List.length_nil, Bool.not_true, Bool.not_false, S__law_is_less]
      rw [getl2b]
      refine ⟨by decide, ?_⟩
      simp only
      refine ⟨by rw [List.length_map]; unfold lim; omega, lcC_filter (enc := frP) (out := fun _ => PV.int 1) (p := fun r => decide (g < r)) (getl2b _ _ _) (fun r hr k3 nn3 h31 h32 => ?_) ?_⟩
      · simp only [mBits, mEnumC, pSortX, mDNewT, mZipM, mDc, mLenSetL, mDGetT, mDGet2T, mDInT, mDPutT, mLockX, mLockEX, mKeysX, pLstX, pLenX, pMaxT, pSortT, str_to, str_ot, mPar3, mLockV, mLockE, mItemsC, mKeysC, mDGet2, pIsN, isNonP, pRepLM, mTruD, dkOfP, pPopAt, pIndex, mLstRgM, mTruth, pReprA, pLenD, pLstD, mDNew, pRepL, mLenSetN, mDIn, mSortSet, mSortSetL, mRevT, mForC, mSeqC, mLcC, pAbs, pMax2, pMin2, pInt1, mDGet, mDPut, mBM, mBM0, pPop, pAppend, pExtend, pSetL, mSub, mDisp, mPs, mPs0, mRevL, mRevLM, pLstOfM, mTupRg, mRg1, mRg2, pPlusM, lstItems, dictOfP, keyP, keysP, val_left, val_mixed, val_draws, put_draws, mLc, mLcM, mLc2, mFor, mSeqI, mRng1, mRng2, mZip, mEnum, mSl, mNoPart, mPart, mSeq, mAsg, mAsg2, mCB, mCons, mNil, mVar, mC, mOp, mUn, pU, mTup, mLst, mRet, mRetN, mLstM, getl, setl, mName, mCall, mCallK, mIf, mIfS, mTest, mAnd, mOr, mNot, mYes, mAndV, mOrV, mNotV, mNext, mNever, mBreak, mCont, mDrop, mChain, mPar, mGTup, mGCons, mGNil, pGcd, pI, pI0, pIx, pTimes, pPlus, pEq, pNe, pLen, pSum, pMaxS, pAll, pAny, pTupOf, pLstOf, pIn, pIsB, pIsi, items_tup, items_lst, items_kl, items_mr, items_tab, items_lot, items_fr, decide_true, decide_false, eqP_int, eqP_bl, eqP_str, eqP_tup2, kit_tt, kit_ii, kit_ib, tyP, mEnd, wipeP, List.map_cons, List.map_nil, List.getElem?_cons_zero, List.getElem?_cons_succ, List.set_cons_zero, List.set_cons_succ, atI_zero, atI_one, if_true, if_false, ite_true, ite_false, Bool.false_eq_true, List.length_cons, List.length_nil, Bool.not_true, Bool.not_false, S__law_is_less]
        refine ⟨trivial, g, r, rfl, sG g hg, sL r hr, ?_⟩
        cases c : decide (g < r) with
        | true => rw [if_pos rfl]; exact h31 c
        | false => rw [if_neg (by decide)]; exact h32 c
      rw [eqP_1s]
      refine ⟨by decide, ?_⟩
      simp only
      cases c : decide ((L.filter fun r => decide (g < r)) = []) with
      | true =>
        rw [if_neg (by decide)]
        refine hn2 ?_
        rw [decide_eq_false_iff_not, Classical.not_not]
        exact of_decide_eq_true c
      | false =>
        rw [if_pos (by decide)]
        exact h1 (decide_eq_true (of_decide_eq_false c))
    rw [eqP_1s]
    refine ⟨by decide, ?_⟩
    simp only
    rw [List.append_assoc]
    exact fin_drop rfl (hQ _ (hdec _ rfl))
abbrev N_are_amounts : List Str := ["thing", "many", "item"]
theorem sc_are_amounts : FnScope N_are_amounts ["thing", "many"] (defScope s_are_amounts) := ⟨rfl, rfl, rfl, by decide +kernel, rfl, by decide +kernel, by decide +kernel⟩
theorem ok_are_amounts (B : Blt mg) (h_are_amounts : Own K mg "are_amounts" s_are_amounts) (k_is_amount : Ok P w K mg base 3 "is_amount" s_is_amount ["thing"] S_is_amount) : Ok P w K mg base 4 "are_amounts" s_are_amounts ["thing", "many"] S_are_amounts := by
  obtain ⟨f_s, fd_s, F_s, g_s⟩ := h_are_amounts
  obtain ⟨f_is_amount, fd_is_amount, F_is_amount, g_is_amount, b_is_amount, G_is_amount⟩ := k_is_amount
  refine ⟨f_s, fd_s, F_s, g_s, F_s.binds (fun _ _ _ _ _ _ us hl => match us, hl with | [_, _], _ => rfl), FnG.of F_s sc_are_amounts (fun xs μ Q h => by first | exact h.1 | exact h.2.1 | (obtain ⟨⟩ := h)) fun cdv A outer s H hr hgd => ⟨_, _, (pss_one (ps_ret (pe_and (pe_callB call_isi (by rfl) (B "isinstance" (by decide)) (by decide +kernel) (pa_cons (pv 0) (pa_cons (pe_bltn (v := .ty "tuple") (u := .type "tuple") (by rfl) (B "tuple" (by decide)) (by decide +kernel) rfl) pa_nil))) (pe_and (pe_cmpR (op_eqX hr.units) (pe_callB cb_len (by rfl) (B "len" (by decide)) (by decide +kernel) (pa_cons (pv 0) pa_nil)) (pv 1) (nomark _)) (pe_one (pe_callB (cr_all rfl) (by rfl) (B "all" (by decide)) (by decide +kernel) (pa_cons (pe_lc (own := [("item", 2)]) (by rfl) sc_are_amounts.nd (pi_seq (pv 0)) (blkOk_by (own := [("item", 2)]) (N := N_are_amounts) (sc := defScope s_are_amounts) (by decide +kernel)) (fun _ _ _ _ _ => (pg_name (i := 2) sc_are_amounts.nd rfl (Or.inl rfl))) (fun _ _ _ _ _ => pts_nil) (fun _ _ _ _ _ => (pek_call K rfl (G_is_amount.mono (by decide)) hr hgd (by rfl) g_is_amount F_is_amount.kp b_is_amount (pa_cons (pv 2) pa_nil)))) pa_nil))))))), (by (try dsimp only [cxOf]); exact inferInstance), ?_⟩⟩
  intro xs μ Q hS
  obtain ⟨_, qs, n, rfl, hn, hl, h0, hQ⟩ := hS
  rw [show startP N_are_amounts [tabP qs, .int n] = [some (tabP qs), some (.int n), none] from rfl]
  simp only [mBits, mEnumC, pSortX, mDNewT, mZipM, mDc, mLenSetL, mDGetT, mDGet2T, mDInT, mDPutT, mLockX, mLockEX, mKeysX, pLstX, pLenX, pMaxT, pSortT, str_to, str_ot, mPar3, mLockV, mLockE, mItemsC, mKeysC, mDGet2, pIsN, isNonP, pRepLM, mTruD, dkOfP, pPopAt, pIndex, mLstRgM, mTruth, pReprA, pLenD, pLstD, mDNew, pRepL, mLenSetN, mDIn, mSortSet, mSortSetL, mRevT, mForC, mSeqC, mLcC, pAbs, pMax2, pMin2, pInt1, mDGet, mDPut, mBM, mBM0, pPop, pAppend, pExtend, pSetL, mSub, mDisp, mPs, mPs0, mRevL, mRevLM, pLstOfM, mTupRg, mRg1, mRg2, pPlusM, lstItems, dictOfP, keyP, keysP, val_left, val_mixed, val_draws, put_draws, mLc, mLcM, mLc2, mFor, mSeqI, mRng1, mRng2, mZip, mEnum, mSl, mNoPart, mPart, mSeq, mAsg, mAsg2, mCB, mCons, mNil, mVar, mC, mOp, mUn, pU, mTup, mLst, mRet, mRetN, mLstM, getl, setl, mName, mCall, mCallK, mIf, mIfS, mTest, mAnd, mOr, mNot, mYes, mAndV, mOrV, mNotV, mNext, mNever, mBreak, mCont, mDrop, mChain, mPar, mGTup, mGCons, mGNil, pGcd, pI, pI0, pIx, pTimes, pPlus, pEq, pNe, pLen, pSum, pMaxS, pAll, pAny, pTupOf, pLstOf, pIn, pIsB, pIsi, items_tup, items_lst, items_kl, items_mr, items_tab, items_lot, items_fr, decide_true, decide_false, eqP_int, eqP_bl, eqP_str, eqP_tup2, kit_tt, kit_ii, kit_ib, tyP, mEnd, wipeP, List.map_cons, List.map_nil, List.getElem?_cons_zero, List.getElem?_cons_succ, List.set_cons_zero, List.set_cons_succ, atI_zero, atI_one, if_true, if_false, ite_true, ite_false, Bool.false_eq_true, List.length_cons, List.length_nil, Bool.not_true, Bool.not_false, tabP]
  have e1 : decide ((((qs.map frP).length : Nat) : Int) = (n : Int)) = true := by simp [hn]
  rw [e1]
  refine ⟨by decide, by rw [List.length_map]; exact hl, lc_map (out := fun _ => .bl true) (fun q hq k hk => ?_) ?_⟩
  · simp only [mBits, mEnumC, pSortX, mDNewT, mZipM, mDc, mLenSetL, mDGetT, mDGet2T, mDInT, mDPutT, mLockX, mLockEX, mKeysX, pLstX, pLenX, pMaxT, pSortT, str_to, str_ot, mPar3, mLockV, mLockE, mItemsC, mKeysC, mDGet2, pIsN, isNonP, pRepLM, mTruD, dkOfP, pPopAt, pIndex, mLstRgM, mTruth, pReprA, pLenD, pLstD, mDNew, pRepL, mLenSetN, mDIn, mSortSet, mSortSetL, mRevT, mForC, mSeqC, mLcC, pAbs, pMax2, pMin2, pInt1, mDGet, mDPut, mBM, mBM0, pPop, pAppend, pExtend, pSetL, mSub, mDisp, mPs, mPs0, mRevL, mRevLM, pLstOfM, mTupRg, mRg1, mRg2, pPlusM, lstItems, dictOfP, keyP, keysP, val_left, val_mixed, val_draws, put_draws, mLc, mLcM, mLc2, mFor, mSeqI, mRng1, mRng2, mZip, mEnum, mSl, mNoPart, mPart, mSeq, mAsg, mAsg2, mCB, mCons, mNil, mVar, mC, mOp, mUn, pU, mTup, mLst, mRet, mRetN, mLstM, getl, setl, mName, mCall, mCallK, mIf, mIfS, mTest, mAnd, mOr, mNot, mYes, mAndV, mOrV, mNotV, mNext, mNever, mBreak, mCont, mDrop, mChain, mPar, mGTup, mGCons, mGNil, pGcd, pI, pI0, pIx, pTimes, pPlus, pEq, pNe, pLen, pSum, pMaxS, pAll, pAny, pTupOf, pLstOf, pIn, pIsB, pIsi, items_tup, items_lst, items_kl, items_mr, items_tab, items_lot, items_fr, decide_true, decide_false, eqP_int, eqP_bl, eqP_str, eqP_tup2, kit_tt, kit_ii, kit_ib, tyP, mEnd, wipeP, List.map_cons, List.map_nil, List.getElem?_cons_zero, List.getElem?_cons_succ, List.set_cons_zero, List.set_cons_succ, atI_zero, atI_one, if_true, if_false, ite_true, ite_false, Bool.false_eq_true, List.length_cons, List.length_nil, Bool.not_true, Bool.not_false, S_is_amount]
    exact ⟨trivial, q, rfl, h0 q hq, hk⟩
  · simp only [all_true, all_id]
    exact fin_keep hQ
abbrev N__law_drawable : List Str := ["_law_table_here", "_law_t", "_law_parts", "_law_rest"]
theorem sc__law_drawable : FnScope N__law_drawable ["_law_table_here", "_law_t"] (defScope s__law_drawable) := ⟨rfl, rfl, rfl, by decide +kernel, rfl, by decide +kernel, by decide +kernel⟩
theorem ok__law_drawable (B : Blt mg) (h__law_drawable : Own K mg "_law_drawable" s__law_drawable) (k__law_whole_parts : Ok P w K mg base 3 "_law_whole_parts" s__law_whole_parts ["_law_table_here", "_law_t"] S__law_whole_parts) : Ok P w K mg base 4 "_law_drawable" s__law_drawable ["_law_table_here", "_law_t"] S__law_drawable := by
  obtain ⟨f_s, fd_s, F_s, g_s⟩ := h__law_drawable
  obtain ⟨f__law_whole_parts, fd__law_whole_parts, F__law_whole_parts, g__law_whole_parts, b__law_whole_parts, G__law_whole_parts⟩ := k__law_whole_parts
  refine ⟨f_s, fd_s, F_s, g_s, F_s.binds (fun _ _ _ _ _ _ us hl => match us, hl with | [_, _], _ => rfl), FnG.of F_s sc__law_drawable (fun xs μ Q h => by first | exact h.1 | exact h.2.1 | (obtain ⟨⟩ := h)) fun cdv A outer s H hr hgd => ⟨_, _, (pss_one (ps_ret (pe_cmpR (op_eqX hr.units) (pe_lc (own := [("_law_parts", 2), ("_law_rest", 3)]) (by rfl) sc__law_drawable.nd (pi_seq (pe_callG (G__law_whole_parts.mono (by decide)) hr hgd (by rfl) g__law_whole_parts F__law_whole_parts.kp b__law_whole_parts (pa_cons (pv 0) (pa_cons (pv 1) pa_nil)))) (blkOk_by (own := [("_law_parts", 2), ("_law_rest", 3)]) (N := N__law_drawable) (sc := defScope s__law_drawable) (by decide +kernel)) (fun _ _ _ _ _ => (pgk_tup K 2 rfl rfl (pgs_cons (pg_name (i := 2) sc__law_drawable.nd rfl (Or.inl rfl)) (pgs_cons (pg_name (i := 3) sc__law_drawable.nd rfl (Or.inl rfl)) pgs_nil)) rfl rfl)) (fun _ _ _ _ _ => pts_one (pt_cmpR (opk_neX K rfl hr.units) (pv 3) (pe_tup (pa_cons pe_int (pa_cons pe_int pa_nil))) (nomark _))) (fun _ _ _ _ _ => pe_int)) (pe_lst pa_nil) (nomark _)))), (by (try dsimp only [cxOf]); exact inferInstance), ?_⟩⟩
  intro xs μ Q hS
  obtain ⟨_, qs, t, rfl, hT, ht, hQ⟩ := hS
  rw [show startP N__law_drawable [tabP qs, .int t] = [some (tabP qs), some (.int t), none, none] from rfl]
  have h8 := hT.len
  simp only [mBits, mEnumC, pSortX, mDNewT, mZipM, mDc, mLenSetL, mDGetT, mDGet2T, mDInT, mDPutT, mLockX, mLockEX, mKeysX, pLstX, pLenX, pMaxT, pSortT, str_to, str_ot, mPar3, mLockV, mLockE, mItemsC, mKeysC, mDGet2, pIsN, isNonP, pRepLM, mTruD, dkOfP, pPopAt, pIndex, mLstRgM, mTruth, pReprA, pLenD, pLstD, mDNew, pRepL, mLenSetN, mDIn, mSortSet, mSortSetL, mRevT, mForC, mSeqC, mLcC, pAbs, pMax2, pMin2, pInt1, mDGet, mDPut, mBM, mBM0, pPop, pAppend, pExtend, pSetL, mSub, mDisp, mPs, mPs0, mRevL, mRevLM, pLstOfM, mTupRg, mRg1, mRg2, pPlusM, lstItems, dictOfP, keyP, keysP, val_left, val_mixed, val_draws, put_draws, mLc, mLcM, mLc2, mFor, mSeqI, mRng1, mRng2, mZip, mEnum, mSl, mNoPart, mPart, mSeq, mAsg, mAsg2, mCB, mCons, mNil, mVar, mC, mOp, mUn, pU, mTup, mLst, mRet, mRetN, mLstM, getl, setl, mName, mCall, mCallK, mIf, mIfS, mTest, mAnd, mOr, mNot, mYes, mAndV, mOrV, mNotV, mNext, mNever, mBreak, mCont, mDrop, mChain, mPar, mGTup, mGCons, mGNil, pGcd, pI, pI0, pIx, pTimes, pPlus, pEq, pNe, pLen, pSum, pMaxS, pAll, pAny, pTupOf, pLstOf, pIn, pIsB, pIsi, items_tup, items_lst, items_kl, items_mr, items_tab, items_lot, items_fr, decide_true, decide_false, eqP_int, eqP_bl, eqP_str, eqP_tup2, kit_tt, kit_ii, kit_ib, tyP, mEnd, wipeP, List.map_cons, List.map_nil, List.getElem?_cons_zero, List.getElem?_cons_succ, List.set_cons_zero, List.set_cons_succ, atI_zero, atI_one, if_true, if_false, ite_true, ite_false, Bool.false_eq_true, List.length_cons, List.length_nil, Bool.not_true, Bool.not_false, S__law_whole_parts]
  refine ⟨by decide, trivial, qs, t, rfl, hT, ht, by rw [List.length_map]; unfold lim; omega, lc_filter (enc := wpP t) (out := fun _ => PV.int 1) (p := fun q => !decide (rsd q t = 0)) (fun q hq kk nn h1 h2 => ?_) ?_⟩
  · simp only [mBits, mEnumC, pSortX, mDNewT, mZipM, mDc, mLenSetL, mDGetT, mDGet2T, mDInT, mDPutT, mLockX, mLockEX, mKeysX, pLstX, pLenX, pMaxT, pSortT, str_to, str_ot, mPar3, mLockV, mLockE, mItemsC, mKeysC, mDGet2, pIsN, isNonP, pRepLM, mTruD, dkOfP, pPopAt, pIndex, mLstRgM, mTruth, pReprA, pLenD, pLstD, mDNew, pRepL, mLenSetN, mDIn, mSortSet, mSortSetL, mRevT, mForC, mSeqC, mLcC, pAbs, pMax2, pMin2, pInt1, mDGet, mDPut, mBM, mBM0, pPop, pAppend, pExtend, pSetL, mSub, mDisp, mPs, mPs0, mRevL, mRevLM, pLstOfM, mTupRg, mRg1, mRg2, pPlusM, lstItems, dictOfP, keyP, keysP, val_left, val_mixed, val_draws, put_draws, mLc, mLcM, mLc2, mFor, mSeqI, mRng1, mRng2, mZip, mEnum, mSl, mNoPart, mPart, mSeq, mAsg, mAsg2, mCB, mCons, mNil, mVar, mC, mOp, mUn, pU, mTup, mLst, mRet, mRetN, mLstM, getl, setl, mName, mCall, mCallK, mIf, mIfS, mTest, mAnd, mOr, mNot, mYes, mAndV, mOrV, mNotV, mNext, mNever, mBreak, mCont, mDrop, mChain, mPar, mGTup, mGCons, mGNil, pGcd, pI, pI0, pIx, pTimes, pPlus, pEq, pNe, pLen, pSum, pMaxS, pAll, pAny, pTupOf, pLstOf, pIn, pIsB, pIsi, items_tup, items_lst, items_kl, items_mr, items_tab, items_lot, items_fr, decide_true, decide_false, eqP_int, eqP_bl, eqP_str, eqP_tup2, kit_tt, kit_ii, kit_ib, tyP, mEnd, wipeP, List.map_cons, List.map_nil, List.getElem?_cons_zero, List.getElem?_cons_succ, List.set_cons_zero, List.set_cons_succ, atI_zero, atI_one, if_true, if_false, ite_true, ite_false, Bool.false_eq_true, List.length_cons, List.length_nil, Bool.not_true, Bool.not_false, wpP, eqP_frz]
    refine ⟨trivial, by decide, ?_⟩
    cases c : (!decide (rsd q t = 0)) with
    | true => rw [if_pos rfl]; exact h1 c
    | false => rw [if_neg (by decide)]; exact h2 c
  rw [eqP_1s, none_left]
  exact ⟨by decide, fin_keep hQ⟩
abbrev N__law_total : List Str := ["_law_some", "_law_found", "_law_it"]
theorem sc__law_total : FnScope N__law_total ["_law_some"] (defScope s__law_total) := ⟨rfl, rfl, rfl, by decide +kernel, rfl, by decide +kernel, by decide +kernel⟩
theorem ok__law_total (B : Blt mg) (h__law_total : Own K mg "_law_total" s__law_total) (k__law_plus : Ok P w K mg base 3 "_law_plus" s__law_plus ["_law_one", "_law_other"] S__law_plus) : Ok P w K mg base 4 "_law_total" s__law_total ["_law_some"] S__law_total := by
  obtain ⟨f_s, fd_s, F_s, g_s⟩ := h__law_total
  obtain ⟨f__law_plus, fd__law_plus, F__law_plus, g__law_plus, b__law_plus, G__law_plus⟩ := k__law_plus
  refine ⟨f_s, fd_s, F_s, g_s, F_s.binds (fun _ _ _ _ _ _ us hl => match us, hl with | [_], _ => rfl), FnG.of F_s sc__law_total (fun xs μ Q h => by first | exact h.1 | exact h.2.1 | (obtain ⟨⟩ := h)) fun cdv A outer s H hr hgd => ⟨_, _, (pss_cons (ps_set (i := 1) sc__law_total.nd rfl (Or.inl rfl) (pe_tup (pa_cons pe_int (pa_cons pe_int pa_nil))))
 (pss_cons (ps_for PassesOwn.never rfl (pi_seq (pv 0)) (pg_name (i := 2) sc__law_total.nd rfl (Or.inl rfl))
 (pss_one (ps_set (i := 1) sc__law_total.nd rfl (Or.inl rfl) (pe_callG (G__law_plus.mono (by decide)) hr hgd (by rfl) g__law_plus F__law_plus.kp b__law_plus (pa_cons (pv 1) (pa_cons (pv 2) pa_nil))))))
 (pss_one (ps_ret (pv 1))))), (by (try dsimp only [cxOf]); exact inferInstance), ?_⟩⟩
  intro xs μ Q hS
  obtain ⟨_, x, qs, rfl, hx, hb, hQ⟩ := hS
  rw [show startP N__law_total [x] = [some x, none, none] from rfl]
  have key : mForL (mName 2) (mAsg (mCall S__law_plus (mCons (mVar 1) (mCons (mVar 2) mNil))) (mName 1)) { nx := mRet (mVar 1) (mEnd μ Q), rt := fun x μ_1 => ∃ y μ', Gc μ x μ_1 y μ' ∧ Q y μ' } (qs.map frP) [some x, some (PV.tup [PV.int 0, PV.int 1]), none] μ := by
    refine for_inv (enc := frP) (fun pre ρ μ' => (∃ y, ρ = [some x, some (frP pre.sum), y]) ∧ μ' = μ) (done := []) ⟨⟨_, rfl⟩, rfl⟩ (fun pre a post ρ μ' e hI N hN => ?_) fun ρ μ' hI => ?_
    · obtain ⟨⟨y, rfl⟩, rfl⟩ := hI
      have e' : qs = pre ++ a :: post := e
      simp only [mBits, mEnumC, pSortX, mDNewT, mZipM, mDc, mLenSetL, mDGetT, mDGet2T, mDInT, mDPutT, mLockX, mLockEX, mKeysX, pLstX, pLenX, pMaxT, pSortT, str_to, str_ot, mPar3, mLockV, mLockE, mItemsC, mKeysC, mDGet2, pIsN, isNonP, pRepLM, mTruD, dkOfP, pPopAt, pIndex, mLstRgM, mTruth, pReprA, pLenD, pLstD, mDNew, pRepL, mLenSetN, mDIn, mSortSet, mSortSetL, mRevT, mForC, mSeqC, mLcC, pAbs, pMax2, pMin2, pInt1, mDGet, mDPut, mBM, mBM0, pPop, pAppend, pExtend, pSetL, mSub, mDisp, mPs, mPs0, mRevL, mRevLM, pLstOfM, mTupRg, mRg1, mRg2, pPlusM, lstItems, dictOfP, keyP, keysP, val_left, val_mixed, val_draws, put_draws, mLc, mLcM, mLc2, mFor, mSeqI, mRng1, mRng2, mZip, mEnum, mSl, mNoPart, mPart, mSeq, mAsg, mAsg2, mCB, mCons, mNil, mVar, mC, mOp, mUn, pU, mTup, mLst, mRet, mRetN, mLstM, getl, setl, mName, mCall, mCallK, mIf, mIfS, mTest, mAnd, mOr, mNot, mYes, mAndV, mOrV, mNotV, mNext, mNever, mBreak, mCont, mDrop, mChain, mPar, mGTup, mGCons, mGNil, pGcd, pI, pI0, pIx, pTimes, pPlus, pEq, pNe, pLen, pSum, pMaxS, pAll, pAny, pTupOf, pLstOf, pIn, pIsB, pIsi, items_tup, items_lst, items_kl, items_mr, items_tab, items_lot, items_fr, decide_true, decide_false, eqP_int, eqP_bl, eqP_str, eqP_tup2, kit_tt, kit_ii, kit_ib, tyP, mEnd, wipeP, List.map_cons, List.map_nil, List.getElem?_cons_zero, List.getElem?_cons_succ, List.set_cons_zero, List.set_cons_succ, atI_zero, atI_one, if_true, if_false, ite_true, ite_false, Bool.false_eq_true, List.length_cons, List.length_nil, Bool.not_true, Bool.not_false, S__law_plus]
      refine ⟨trivial, _, _, rfl, (hb.sub (by rw [e']; exact List.sublist_append_left _ _)).sum_sm.mono (by decide), (hb.mem_sm (by rw [e']; simp)).mono (by decide), hN _ _ ⟨⟨some (frP a), ?_⟩, rfl⟩⟩
      rw [sum_append, List.sum_cons]
      show _ = [some x, some (frP (pre.sum + (a + 0))), some (frP a)]
      rw [Rat.add_zero]
    · obtain ⟨⟨y, rfl⟩, rfl⟩ := hI
      simp only [mBits, mEnumC, pSortX, mDNewT, mZipM, mDc, mLenSetL, mDGetT, mDGet2T, mDInT, mDPutT, mLockX, mLockEX, mKeysX, pLstX, pLenX, pMaxT, pSortT, str_to, str_ot, mPar3, mLockV, mLockE, mItemsC, mKeysC, mDGet2, pIsN, isNonP, pRepLM, mTruD, dkOfP, pPopAt, pIndex, mLstRgM, mTruth, pReprA, pLenD, pLstD, mDNew, pRepL, mLenSetN, mDIn, mSortSet, mSortSetL, mRevT, mForC, mSeqC, mLcC, pAbs, pMax2, pMin2, pInt1, mDGet, mDPut, mBM, mBM0, pPop, pAppend, pExtend, pSetL, mSub, mDisp, mPs, mPs0, mRevL, mRevLM, pLstOfM, mTupRg, mRg1, mRg2, pPlusM, lstItems, dictOfP, keyP, keysP, val_left, val_mixed, val_draws, put_draws, mLc, mLcM, mLc2, mFor, mSeqI, mRng1, mRng2, mZip, mEnum, mSl, mNoPart, mPart, mSeq, mAsg, mAsg2, mCB, mCons, mNil, mVar, mC, mOp, mUn, pU, mTup, mLst, mRet, mRetN, mLstM, getl, setl, mName, mCall, mCallK, mIf, mIfS, mTest, mAnd, mOr, mNot, mYes, mAndV, mOrV, mNotV, mNext, mNever, mBreak, mCont, mDrop, mChain, mPar, mGTup, mGCons, mGNil, pGcd, pI, pI0, pIx, pTimes, pPlus, pEq, pNe, pLen, pSum, pMaxS, pAll, pAny, pTupOf, pLstOf, pIn, pIsB, pIsi, items_tup, items_lst, items_kl, items_mr, items_tab, items_lot, items_fr, decide_true, decide_false, eqP_int, eqP_bl, eqP_str, eqP_tup2, kit_tt, kit_ii, kit_ib, tyP, mEnd, wipeP, List.map_cons, List.map_nil, List.getElem?_cons_zero, List.getElem?_cons_succ, List.set_cons_zero, List.set_cons_succ, atI_zero, atI_one, if_true, if_false, ite_true, ite_false, Bool.false_eq_true, List.length_cons, List.length_nil, Bool.not_true, Bool.not_false]
      exact fin_keep hQ
  cases x <;> simp only [seqP, reduceCtorEq, Option.some.injEq] at hx
  · subst hx
    simp only [mBits, mEnumC, pSortX, mDNewT, mZipM, mDc, mLenSetL, mDGetT, mDGet2T, mDInT, mDPutT, mLockX, mLockEX, mKeysX, pLstX, pLenX, pMaxT, pSortT, str_to, str_ot, mPar3, mLockV, mLockE, mItemsC, mKeysC, mDGet2, pIsN, isNonP, pRepLM, mTruD, dkOfP, pPopAt, pIndex, mLstRgM, mTruth, pReprA, pLenD, pLstD, mDNew, pRepL, mLenSetN, mDIn, mSortSet, mSortSetL, mRevT, mForC, mSeqC, mLcC, pAbs, pMax2, pMin2, pInt1, mDGet, mDPut, mBM, mBM0, pPop, pAppend, pExtend, pSetL, mSub, mDisp, mPs, mPs0, mRevL, mRevLM, pLstOfM, mTupRg, mRg1, mRg2, pPlusM, lstItems, dictOfP, keyP, keysP, val_left, val_mixed, val_draws, put_draws, mLc, mLcM, mLc2, mFor, mSeqI, mRng1, mRng2, mZip, mEnum, mSl, mNoPart, mPart, mSeq, mAsg, mAsg2, mCB, mCons, mNil, mVar, mC, mOp, mUn, pU, mTup, mLst, mRet, mRetN, mLstM, getl, setl, mName, mCall, mCallK, mIf, mIfS, mTest, mAnd, mOr, mNot, mYes, mAndV, mOrV, mNotV, mNext, mNever, mBreak, mCont, mDrop, mChain, mPar, mGTup, mGCons, mGNil, pGcd, pI, pI0, pIx, pTimes, pPlus, pEq, pNe, pLen, pSum, pMaxS, pAll, pAny, pTupOf, pLstOf, pIn, pIsB, pIsi, items_tup, items_lst, items_kl, items_mr, items_tab, items_lot, items_fr, decide_true, decide_false, eqP_int, eqP_bl, eqP_str, eqP_tup2, kit_tt, kit_ii, kit_ib, tyP, mEnd, wipeP, List.map_cons, List.map_nil, List.getElem?_cons_zero, List.getElem?_cons_succ, List.set_cons_zero, List.set_cons_succ, atI_zero, atI_one, if_true, if_false, ite_true, ite_false, Bool.false_eq_true, List.length_cons, List.length_nil, Bool.not_true, Bool.not_false]
    exact ⟨by decide, key⟩
  · subst hx
    simp only [mBits, mEnumC, pSortX, mDNewT, mZipM, mDc, mLenSetL, mDGetT, mDGet2T, mDInT, mDPutT, mLockX, mLockEX, mKeysX, pLstX, pLenX, pMaxT, pSortT, str_to, str_ot, mPar3, mLockV, mLockE, mItemsC, mKeysC, mDGet2, pIsN, isNonP, pRepLM, mTruD, dkOfP, pPopAt, pIndex, mLstRgM, mTruth, pReprA, pLenD, pLstD, mDNew, pRepL, mLenSetN, mDIn, mSortSet, mSortSetL, mRevT, mForC, mSeqC, mLcC, pAbs, pMax2, pMin2, pInt1, mDGet, mDPut, mBM, mBM0, pPop, pAppend, pExtend, pSetL, mSub, mDisp, mPs, mPs0, mRevL, mRevLM, pLstOfM, mTupRg, mRg1, mRg2, pPlusM, lstItems, dictOfP, keyP, keysP, val_left, val_mixed, val_draws, put_draws, mLc, mLcM, mLc2, mFor, mSeqI, mRng1, mRng2, mZip, mEnum, mSl, mNoPart, mPart, mSeq, mAsg, mAsg2, mCB, mCons, mNil, mVar, mC, mOp, mUn, pU, mTup, mLst, mRet, mRetN, mLstM, getl, setl, mName, mCall, mCallK, mIf, mIfS, mTest, mAnd, mOr, mNot, mYes, mAndV, mOrV, mNotV, mNext, mNever, mBreak, mCont, mDrop, mChain, mPar, mGTup, mGCons, mGNil, pGcd, pI, pI0, pIx, pTimes, pPlus, pEq, pNe, pLen, pSum, pMaxS, pAll, pAny, pTupOf, pLstOf, pIn, pIsB, pIsi, items_tup, items_lst, items_kl, items_mr, items_tab, items_lot, items_fr, decide_true, decide_false, eqP_int, eqP_bl, eqP_str, eqP_tup2, kit_tt, kit_ii, kit_ib, tyP, mEnd, wipeP, List.map_cons, List.map_nil, List.getElem?_cons_zero, List.getElem?_cons_succ, List.set_cons_zero, List.set_cons_succ, atI_zero, atI_one, if_true, if_false, ite_true, ite_false, Bool.false_eq_true, List.length_cons, List.length_nil, Bool.not_true, Bool.not_false]
    exact ⟨by decide, key⟩
abbrev N_amount_apart : List Str := ["table", "other", "amounts", "one", "two"]
theorem sc_amount_apart : FnScope N_amount_apart ["table", "other"] (defScope s_amount_apart) := ⟨rfl, rfl, rfl, by decide +kernel, rfl, by decide +kernel, by decide +kernel⟩
theorem ok_amount_apart (B : Blt mg) (h_amount_apart : Own K mg "amount_apart" s_amount_apart) (k_total : Ok P w K mg base 3 "total" s_total ["fractions"] S_total) (k_apart : Ok P w K mg base 2 "apart" s_apart ["one", "other"] S_apart) (k_divided : Ok P w K mg base 2 "divided" s_divided ["one", "other"] S_divided) : Ok P w K mg base 4 "amount_apart" s_amount_apart ["table", "other"] S_amount_apart := by
  obtain ⟨f_s, fd_s, F_s, g_s⟩ := h_amount_apart
  obtain ⟨f_total, fd_total, F_total, g_total, b_total, G_total⟩ := k_total
  obtain ⟨f_apart, fd_apart, F_apart, g_apart, b_apart, G_apart⟩ := k_apart
  obtain ⟨f_divided, fd_divided, F_divided, g_divided, b_divided, G_divided⟩ := k_divided
  refine ⟨f_s, fd_s, F_s, g_s, F_s.binds (fun _ _ _ _ _ _ us hl => match us, hl with | [_, _], _ => rfl), FnG.of F_s sc_amount_apart (fun xs μ Q h => by first | exact h.1 | exact h.2.1 | (obtain ⟨⟩ := h)) fun cdv A outer s H hr hgd => ⟨_, _, (pss_cons (ps_set (i := 2) sc_amount_apart.nd rfl (Or.inl rfl) (pe_callG (G_total.mono (by decide)) hr hgd (by rfl) g_total F_total.kp b_total (pa_cons (pe_lc (own := [("one", 3), ("two", 4)]) (by rfl) sc_amount_apart.nd (pi_zipA (by rfl) (B "zip" (by decide)) (pa_cons (pv 0) (pa_cons (pv 1) pa_nil))) (blkOk_by (own := [("one", 3), ("two", 4)]) (N := N_amount_apart) (sc := defScope s_amount_apart) (by decide +kernel)) (fun _ _ _ _ _ => (pgk_tup K 2 rfl rfl (pgs_cons (pg_name (i := 3) sc_amount_apart.nd rfl (Or.inl rfl)) (pgs_cons (pg_name (i := 4) sc_amount_apart.nd rfl (Or.inl rfl)) pgs_nil)) rfl rfl)) (fun _ _ _ _ _ => pts_nil) (fun _ _ _ _ _ => (pek_call K rfl (G_apart.mono (by decide)) hr hgd (by rfl) g_apart F_apart.kp b_apart (pa_cons (pv 3) (pa_cons (pv 4) pa_nil))))) pa_nil)))
 (pss_one (ps_ret (pe_callG (G_divided.mono (by decide)) hr hgd (by rfl) g_divided F_divided.kp b_divided (pa_cons (pv 2) (pa_cons (pe_tup (pa_cons pe_int (pa_cons pe_int pa_nil))) pa_nil)))))), (by (try dsimp only [cxOf]); exact inferInstance), ?_⟩⟩
  intro xs μ Q hS
  obtain ⟨_, m, n, a, b, rfl, ha, hb, hz, hl, hQ⟩ := hS
  rw [show startP N_amount_apart [tabP a, tabP b] = [some (tabP a), some (tabP b), none, none, none] from rfl]
  have l8 := ha.len
  have hsb := dls_sb hl ha hb
  simp only [mBits, mEnumC, pSortX, mDNewT, mZipM, mDc, mLenSetL, mDGetT, mDGet2T, mDInT, mDPutT, mLockX, mLockEX, mKeysX, pLstX, pLenX, pMaxT, pSortT, str_to, str_ot, mPar3, mLockV, mLockE, mItemsC, mKeysC, mDGet2, pIsN, isNonP, pRepLM, mTruD, dkOfP, pPopAt, pIndex, mLstRgM, mTruth, pReprA, pLenD, pLstD, mDNew, pRepL, mLenSetN, mDIn, mSortSet, mSortSetL, mRevT, mForC, mSeqC, mLcC, pAbs, pMax2, pMin2, pInt1, mDGet, mDPut, mBM, mBM0, pPop, pAppend, pExtend, pSetL, mSub, mDisp, mPs, mPs0, mRevL, mRevLM, pLstOfM, mTupRg, mRg1, mRg2, pPlusM, lstItems, dictOfP, keyP, keysP, val_left, val_mixed, val_draws, put_draws, mLc, mLcM, mLc2, mFor, mSeqI, mRng1, mRng2, mZip, mEnum, mSl, mNoPart, mPart, mSeq, mAsg, mAsg2, mCB, mCons, mNil, mVar, mC, mOp, mUn, pU, mTup, mLst, mRet, mRetN, mLstM, getl, setl, mName, mCall, mCallK, mIf, mIfS, mTest, mAnd, mOr, mNot, mYes, mAndV, mOrV, mNotV, mNext, mNever, mBreak, mCont, mDrop, mChain, mPar, mGTup, mGCons, mGNil, pGcd, pI, pI0, pIx, pTimes, pPlus, pEq, pNe, pLen, pSum, pMaxS, pAll, pAny, pTupOf, pLstOf, pIn, pIsB, pIsi, items_tup, items_lst, items_kl, items_mr, items_tab, items_lot, items_fr, decide_true, decide_false, eqP_int, eqP_bl, eqP_str, eqP_tup2, kit_tt, kit_ii, kit_ib, tyP, mEnd, wipeP, List.map_cons, List.map_nil, List.getElem?_cons_zero, List.getElem?_cons_succ, List.set_cons_zero, List.set_cons_succ, atI_zero, atI_one, if_true, if_false, ite_true, ite_false, Bool.false_eq_true, List.length_cons, List.length_nil, Bool.not_true, Bool.not_false, tabP]
  rw [zipP_map]
  refine ⟨by decide, ?_, lc_map (out := fun p : Rat × Rat => frP (rab (p.1 - p.2))) (fun p hp k hk => ?_) ?_⟩
  · rw [List.length_map, List.length_zip]; unfold lim; omega
  · have hp2 := List.of_mem_zip (a := p.1) (b := p.2) hp
    simp only [mBits, mEnumC, pSortX, mDNewT, mZipM, mDc, mLenSetL, mDGetT, mDGet2T, mDInT, mDPutT, mLockX, mLockEX, mKeysX, pLstX, pLenX, pMaxT, pSortT, str_to, str_ot, mPar3, mLockV, mLockE, mItemsC, mKeysC, mDGet2, pIsN, isNonP, pRepLM, mTruD, dkOfP, pPopAt, pIndex, mLstRgM, mTruth, pReprA, pLenD, pLstD, mDNew, pRepL, mLenSetN, mDIn, mSortSet, mSortSetL, mRevT, mForC, mSeqC, mLcC, pAbs, pMax2, pMin2, pInt1, mDGet, mDPut, mBM, mBM0, pPop, pAppend, pExtend, pSetL, mSub, mDisp, mPs, mPs0, mRevL, mRevLM, pLstOfM, mTupRg, mRg1, mRg2, pPlusM, lstItems, dictOfP, keyP, keysP, val_left, val_mixed, val_draws, put_draws, mLc, mLcM, mLc2, mFor, mSeqI, mRng1, mRng2, mZip, mEnum, mSl, mNoPart, mPart, mSeq, mAsg, mAsg2, mCB, mCons, mNil, mVar, mC, mOp, mUn, pU, mTup, mLst, mRet, mRetN, mLstM, getl, setl, mName, mCall, mCallK, mIf, mIfS, mTest, mAnd, mOr, mNot, mYes, mAndV, mOrV, mNotV, mNext, mNever, mBreak, mCont, mDrop, mChain, mPar, mGTup, mGCons, mGNil, pGcd, pI, pI0, pIx, pTimes, pPlus, pEq, pNe, pLen, pSum, pMaxS, pAll, pAny, pTupOf, pLstOf, pIn, pIsB, pIsi, items_tup, items_lst, items_kl, items_mr, items_tab, items_lot, items_fr, decide_true, decide_false, eqP_int, eqP_bl, eqP_str, eqP_tup2, kit_tt, kit_ii, kit_ib, tyP, mEnd, wipeP, List.map_cons, List.map_nil, List.getElem?_cons_zero, List.getElem?_cons_succ, List.set_cons_zero, List.set_cons_succ, atI_zero, atI_one, if_true, if_false, ite_true, ite_false, Bool.false_eq_true, List.length_cons, List.length_nil, Bool.not_true, Bool.not_false]
    exact ⟨trivial, rfl, _, _, rfl, (ha.sm hp2.1).mono (by omega), (hb.sm hp2.2).mono (by omega), hk⟩
  · refine ⟨rfl, _, dls a b, rfl, ?_, hsb.mono (by omega), by decide, rfl, _, (2 : Rat), rfl, ?_, ⟨by decide +kernel, by decide +kernel⟩, by decide, ?_⟩
    · unfold dls seqP
      rw [List.map_map]
      rfl
    · exact hsb.sum_sm.mono (by omega)
    · rw [dls_sum hl]
      exact fin_keep hQ
abbrev N_is_table : List Str := ["thing"]
theorem sc_is_table : FnScope N_is_table ["thing"] (defScope s_is_table) := ⟨rfl, rfl, rfl, by decide +kernel, rfl, by decide +kernel, by decide +kernel⟩
theorem ok_is_table (B : Blt mg) (h_is_table : Own K mg "is_table" s_is_table) (k_total : Ok P w K mg base 3 "total" s_total ["fractions"] S_total) (k_are_amounts : Ok P w K mg base 4 "are_amounts" s_are_amounts ["thing", "many"] S_are_amounts) {t_MOST_OUTCOMES : Tok} (c_MOST_OUTCOMES : mg "MOST_OUTCOMES" = some (.int 8 t_MOST_OUTCOMES)) : Ok P w K mg base 5 "is_table" s_is_table ["thing"] S_is_table := by
  obtain ⟨f_s, fd_s, F_s, g_s⟩ := h_is_table
  obtain ⟨f_total, fd_total, F_total, g_total, b_total, G_total⟩ := k_total
  obtain ⟨f_are_amounts, fd_are_amounts, F_are_amounts, g_are_amounts, b_are_amounts, G_are_amounts⟩ := k_are_amounts
  refine ⟨f_s, fd_s, F_s, g_s, F_s.binds (fun _ _ _ _ _ _ us hl => match us, hl with | [_], _ => rfl), FnG.of F_s sc_is_table (fun xs μ Q h => by first | exact h.1 | exact h.2.1 | (obtain ⟨⟩ := h)) fun cdv A outer s H hr hgd => ⟨_, _, (pss_cons (ps_if (PW.pt (pw_or (pt_not (pt_val (pe_callB call_isi (by rfl) (B "isinstance" (by decide)) (by decide +kernel) (pa_cons (pv 0) (pa_cons (pe_bltn (v := .ty "tuple") (u := .type "tuple") (by rfl) (B "tuple" (by decide)) (by decide +kernel) rfl) pa_nil))))) (pw_or1 (pt_not (pt_chain op_le op_le pe_int (pe_callB cb_len (by rfl) (B "len" (by decide)) (by decide +kernel) (pa_cons (pv 0) pa_nil)) (pe_glob (v := .int 8) rfl c_MOST_OUTCOMES ⟨_, rfl⟩))))))
 (pss_one (ps_ret pe_bl))
 pss_nil)
 (pss_one (ps_ret (pe_and (pe_callG (G_are_amounts.mono (by decide)) hr hgd (by rfl) g_are_amounts F_are_amounts.kp b_are_amounts (pa_cons (pv 0) (pa_cons (pe_callB cb_len (by rfl) (B "len" (by decide)) (by decide +kernel) (pa_cons (pv 0) pa_nil)) pa_nil))) (pe_one (pe_cmpR (op_eqX hr.units) (pe_callG (G_total.mono (by decide)) hr hgd (by rfl) g_total F_total.kp b_total (pa_cons (pv 0) pa_nil)) (pe_tup (pa_cons pe_int (pa_cons pe_int pa_nil))) (nomark _))))))), (by (try dsimp only [cxOf]); exact inferInstance), ?_⟩⟩
  intro xs μ Q hS
  obtain ⟨_, qs, rfl, hT, hQ⟩ := hS
  rw [show startP N_is_table [tabP qs] = [some (tabP qs)] from rfl]
  have l8 := hT.len
  have l1 := List.length_pos_iff.mpr hT.ne
  have e0 : ∀ μ, itemsOf (tabP qs) μ = some (qs.map frP) := fun _ => rfl
  have e1 : decide ((1 : Int) ≤ ((qs.map frP).length : Nat)) = true := by simp; omega
  have e2 : decide (((qs.map frP).length : Nat) ≤ (8 : Int)) = true := by simp; omega
  simp only [mBits, mEnumC, pSortX, mDNewT, mZipM, mDc, mLenSetL, mDGetT, mDGet2T, mDInT, mDPutT, mLockX, mLockEX, mKeysX, pLstX, pLenX, pMaxT, pSortT, str_to, str_ot, mPar3, mLockV, mLockE, mItemsC, mKeysC, mDGet2, pIsN, isNonP, pRepLM, mTruD, dkOfP, pPopAt, pIndex, mLstRgM, mTruth, pReprA, pLenD, pLstD, mDNew, pRepL, mLenSetN, mDIn, mSortSet, mSortSetL, mRevT, mForC, mSeqC, mLcC, pAbs, pMax2, pMin2, pInt1, mDGet, mDPut, mBM, mBM0, pPop, pAppend, pExtend, pSetL, mSub, mDisp, mPs, mPs0, mRevL, mRevLM, pLstOfM, mTupRg, mRg1, mRg2, pPlusM, lstItems, dictOfP, keyP, keysP, val_left, val_mixed, val_draws, put_draws, mLc, mLcM, mLc2, mFor, mSeqI, mRng1, mRng2, mZip, mEnum, mSl, mNoPart, mPart, mSeq, mAsg, mAsg2, mCB, mCons, mNil, mVar, mC, mOp, mUn, pU, mTup, mLst, mRet, mRetN, mLstM, getl, setl, mName, mCall, mCallK, mIf, mIfS, mTest, mAnd, mOr, mNot, mYes, mAndV, mOrV, mNotV, mNext, mNever, mBreak, mCont, mDrop, mChain, mPar, mGTup, mGCons, mGNil, pGcd, pI, pI0, pIx, pTimes, pPlus, pEq, pNe, pLen, pSum, pMaxS, pAll, pAny, pTupOf, pLstOf, pIn, pIsB, pIsi, items_tup, items_lst, items_kl, items_mr, items_tab, items_lot, items_fr, decide_true, decide_false, eqP_int, eqP_bl, eqP_str, eqP_tup2, kit_tt, kit_ii, kit_ib, tyP, mEnd, wipeP, List.map_cons, List.map_nil, List.getElem?_cons_zero, List.getElem?_cons_succ, List.set_cons_zero, List.set_cons_succ, atI_zero, atI_one, if_true, if_false, ite_true, ite_false, Bool.false_eq_true, List.length_cons, List.length_nil, Bool.not_true, Bool.not_false, tabP]
  rw [e1, e2]
  simp only [mBits, mEnumC, pSortX, mDNewT, mZipM, mDc, mLenSetL, mDGetT, mDGet2T, mDInT, mDPutT, mLockX, mLockEX, mKeysX, pLstX, pLenX, pMaxT, pSortT, str_to, str_ot, mPar3, mLockV, mLockE, mItemsC, mKeysC, mDGet2, pIsN, isNonP, pRepLM, mTruD, dkOfP, pPopAt, pIndex, mLstRgM, mTruth, pReprA, pLenD, pLstD, mDNew, pRepL, mLenSetN, mDIn, mSortSet, mSortSetL, mRevT, mForC, mSeqC, mLcC, pAbs, pMax2, pMin2, pInt1, mDGet, mDPut, mBM, mBM0, pPop, pAppend, pExtend, pSetL, mSub, mDisp, mPs, mPs0, mRevL, mRevLM, pLstOfM, mTupRg, mRg1, mRg2, pPlusM, lstItems, dictOfP, keyP, keysP, val_left, val_mixed, val_draws, put_draws, mLc, mLcM, mLc2, mFor, mSeqI, mRng1, mRng2, mZip, mEnum, mSl, mNoPart, mPart, mSeq, mAsg, mAsg2, mCB, mCons, mNil, mVar, mC, mOp, mUn, pU, mTup, mLst, mRet, mRetN, mLstM, getl, setl, mName, mCall, mCallK, mIf, mIfS, mTest, mAnd, mOr, mNot, mYes, mAndV, mOrV, mNotV, mNext, mNever, mBreak, mCont, mDrop, mChain, mPar, mGTup, mGCons, mGNil, pGcd, pI, pI0, pIx, pTimes, pPlus, pEq, pNe, pLen, pSum, pMaxS, pAll, pAny, pTupOf, pLstOf, pIn, pIsB, pIsi, items_tup, items_lst, items_kl, items_mr, items_tab, items_lot, items_fr, decide_true, decide_false, eqP_int, eqP_bl, eqP_str, eqP_tup2, kit_tt, kit_ii, kit_ib, tyP, mEnd, wipeP, List.map_cons, List.map_nil, List.getElem?_cons_zero, List.getElem?_cons_succ, List.set_cons_zero, List.set_cons_succ, atI_zero, atI_one, if_true, if_false, ite_true, ite_false, Bool.false_eq_true, List.length_cons, List.length_nil, Bool.not_true, Bool.not_false, S_are_amounts]
  refine ⟨trivial, qs, qs.length, by rw [List.length_map]; rfl, rfl, by unfold lim; omega, hT.pos, ?_⟩
  simp only [mBits, mEnumC, pSortX, mDNewT, mZipM, mDc, mLenSetL, mDGetT, mDGet2T, mDInT, mDPutT, mLockX, mLockEX, mKeysX, pLstX, pLenX, pMaxT, pSortT, str_to, str_ot, mPar3, mLockV, mLockE, mItemsC, mKeysC, mDGet2, pIsN, isNonP, pRepLM, mTruD, dkOfP, pPopAt, pIndex, mLstRgM, mTruth, pReprA, pLenD, pLstD, mDNew, pRepL, mLenSetN, mDIn, mSortSet, mSortSetL, mRevT, mForC, mSeqC, mLcC, pAbs, pMax2, pMin2, pInt1, mDGet, mDPut, mBM, mBM0, pPop, pAppend, pExtend, pSetL, mSub, mDisp, mPs, mPs0, mRevL, mRevLM, pLstOfM, mTupRg, mRg1, mRg2, pPlusM, lstItems, dictOfP, keyP, keysP, val_left, val_mixed, val_draws, put_draws, mLc, mLcM, mLc2, mFor, mSeqI, mRng1, mRng2, mZip, mEnum, mSl, mNoPart, mPart, mSeq, mAsg, mAsg2, mCB, mCons, mNil, mVar, mC, mOp, mUn, pU, mTup, mLst, mRet, mRetN, mLstM, getl, setl, mName, mCall, mCallK, mIf, mIfS, mTest, mAnd, mOr, mNot, mYes, mAndV, mOrV, mNotV, mNext, mNever, mBreak, mCont, mDrop, mChain, mPar, mGTup, mGCons, mGNil, pGcd, pI, pI0, pIx, pTimes, pPlus, pEq, pNe, pLen, pSum, pMaxS, pAll, pAny, pTupOf, pLstOf, pIn, pIsB, pIsi, items_tup, items_lst, items_kl, items_mr, items_tab, items_lot, items_fr, decide_true, decide_false, eqP_int, eqP_bl, eqP_str, eqP_tup2, kit_tt, kit_ii, kit_ib, tyP, mEnd, wipeP, List.map_cons, List.map_nil, List.getElem?_cons_zero, List.getElem?_cons_succ, List.set_cons_zero, List.set_cons_succ, atI_zero, atI_one, if_true, if_false, ite_true, ite_false, Bool.false_eq_true, List.length_cons, List.length_nil, Bool.not_true, Bool.not_false, S_total]
  refine ⟨trivial, _, qs, rfl, rfl, hT.sb.mono (by decide), by decide, ?_⟩
  rw [hT.one, one_fr, eqP_fr]
  exact fin_keep hQ
abbrev N__law_is_table : List Str := ["_law_thing", "_law_it"]
theorem sc__law_is_table : FnScope N__law_is_table ["_law_thing"] (defScope s__law_is_table) := ⟨rfl, rfl, rfl, by decide +kernel, rfl, by decide +kernel, by decide +kernel⟩
theorem ok__law_is_table (B : Blt mg) (h__law_is_table : Own K mg "_law_is_table" s__law_is_table) (k__law_is_fraction : Ok P w K mg base 2 "_law_is_fraction" s__law_is_fraction ["_law_thing"] S__law_is_fraction) (k__law_total : Ok P w K mg base 4 "_law_total" s__law_total ["_law_some"] S__law_total) : Ok P w K mg base 5 "_law_is_table" s__law_is_table ["_law_thing"] S__law_is_table := by
  obtain ⟨f_s, fd_s, F_s, g_s⟩ := h__law_is_table
  obtain ⟨f__law_is_fraction, fd__law_is_fraction, F__law_is_fraction, g__law_is_fraction, b__law_is_fraction, G__law_is_fraction⟩ := k__law_is_fraction
  obtain ⟨f__law_total, fd__law_total, F__law_total, g__law_total, b__law_total, G__law_total⟩ := k__law_total
  refine ⟨f_s, fd_s, F_s, g_s, F_s.binds (fun _ _ _ _ _ _ us hl => match us, hl with | [_], _ => rfl), FnG.of F_s sc__law_is_table (fun xs μ Q h => by first | exact h.1 | exact h.2.1 | (obtain ⟨⟩ := h)) fun cdv A outer s H hr hgd => ⟨_, _, (pss_cons (ps_if (PW.pt (pw_or (pt_not (pt_val (pe_callB call_isi (by rfl) (B "isinstance" (by decide)) (by decide +kernel) (pa_cons (pv 0) (pa_cons (pe_bltn (v := .ty "tuple") (u := .type "tuple") (by rfl) (B "tuple" (by decide)) (by decide +kernel) rfl) pa_nil))))) (pw_or1 (pt_not (pt_chain op_le op_le pe_int (pe_callB cb_len (by rfl) (B "len" (by decide)) (by decide +kernel) (pa_cons (pv 0) pa_nil)) pe_int)))))
 (pss_one (ps_ret pe_bl))
 pss_nil)
 (pss_cons (ps_if (pt_cmpR (op_neX hr.units) (pe_lc (own := [("_law_it", 1)]) (by rfl) sc__law_is_table.nd (pi_seq (pv 0)) (blkOk_by (own := [("_law_it", 1)]) (N := N__law_is_table) (sc := defScope s__law_is_table) (by decide +kernel)) (fun _ _ _ _ _ => (pg_name (i := 1) sc__law_is_table.nd rfl (Or.inl rfl))) (fun _ _ _ _ _ => pts_one (PW.pt (pw_or (pt_not (pt_val (pek_call K rfl (G__law_is_fraction.mono (by decide)) hr hgd (by rfl) g__law_is_fraction F__law_is_fraction.kp b__law_is_fraction (pa_cons (pv 1) pa_nil)))) (pw_or1 (pt_cmpR op_lt (pe_ix (ixk_seq K rfl) (pv 1) pe_int (fun _ _ => rfl)) pe_int (nomark _)))))) (fun _ _ _ _ _ => (pv 1))) (pe_lst pa_nil) (nomark _))
 (pss_one (ps_ret pe_bl))
 pss_nil)
 (pss_one (ps_ret (pe_cmpR (op_eqX hr.units) (pe_callG (G__law_total.mono (by decide)) hr hgd (by rfl) g__law_total F__law_total.kp b__law_total (pa_cons (pv 0) pa_nil)) (pe_tup (pa_cons pe_int (pa_cons pe_int pa_nil))) (nomark _)))))), (by (try dsimp only [cxOf]); exact inferInstance), ?_⟩⟩
  intro xs μ Q hS
  obtain ⟨_, qs, rfl, hT, hQ⟩ := hS
  rw [show startP N__law_is_table [tabP qs] = [some (tabP qs), none] from rfl]
  have h8 := hT.len
  refine stm_of fun R hR => ?_
  simp only [mBits, mEnumC, pSortX, mDNewT, mZipM, mDc, mLenSetL, mDGetT, mDGet2T, mDInT, mDPutT, mLockX, mLockEX, mKeysX, pLstX, pLenX, pMaxT, pSortT, str_to, str_ot, mPar3, mLockV, mLockE, mItemsC, mKeysC, mDGet2, pIsN, isNonP, pRepLM, mTruD, dkOfP, pPopAt, pIndex, mLstRgM, mTruth, pReprA, pLenD, pLstD, mDNew, pRepL, mLenSetN, mDIn, mSortSet, mSortSetL, mRevT, mForC, mSeqC, mLcC, pAbs, pMax2, pMin2, pInt1, mDGet, mDPut, mBM, mBM0, pPop, pAppend, pExtend, pSetL, mSub, mDisp, mPs, mPs0, mRevL, mRevLM, pLstOfM, mTupRg, mRg1, mRg2, pPlusM, lstItems, dictOfP, keyP, keysP, val_left, val_mixed, val_draws, put_draws, mLc, mLcM, mLc2, mFor, mSeqI, mRng1, mRng2, mZip, mEnum, mSl, mNoPart, mPart, mSeq, mAsg, mAsg2, mCB, mCons, mNil, mVar, mC, mOp, mUn, pU, mTup, mLst, mRet, mRetN, mLstM, getl, setl, mName, mCall, mCallK, mIf, mIfS, mTest, mAnd, mOr, mNot, mYes, mAndV, mOrV, mNotV, mNext, mNever, mBreak, mCont, mDrop, mChain, mPar, mGTup, mGCons, mGNil, pGcd, pI, pI0, pIx, pTimes, pPlus, pEq, pNe, pLen, pSum, pMaxS, pAll, pAny, pTupOf, pLstOf, pIn, pIsB, pIsi, items_tup, items_lst, items_kl, items_mr, items_tab, items_lot, items_fr, decide_true, decide_false, eqP_int, eqP_bl, eqP_str, eqP_tup2, kit_tt, kit_ii, kit_ib, tyP, mEnd, wipeP, List.map_cons, List.map_nil, List.getElem?_cons_zero, List.getElem?_cons_succ, List.set_cons_zero, List.set_cons_succ, atI_zero, atI_one, if_true, if_false, ite_true, ite_false, Bool.false_eq_true, List.length_cons, List.length_nil, Bool.not_true, Bool.not_false, tabP, S__law_is_fraction]
  have hq0 : 0 < qs.length := List.length_pos_iff.mpr hT.ne
  rw [List.length_map, decide_eq_true (by omega), if_pos rfl, decide_eq_true (by omega), if_neg (by decide)]
  subst hR
  refine stm_of fun R hR => ?_
  simp only [mBits, mEnumC, pSortX, mDNewT, mZipM, mDc, mLenSetL, mDGetT, mDGet2T, mDInT, mDPutT, mLockX, mLockEX, mKeysX, pLstX, pLenX, pMaxT, pSortT, str_to, str_ot, mPar3, mLockV, mLockE, mItemsC, mKeysC, mDGet2, pIsN, isNonP, pRepLM, mTruD, dkOfP, pPopAt, pIndex, mLstRgM, mTruth, pReprA, pLenD, pLstD, mDNew, pRepL, mLenSetN, mDIn, mSortSet, mSortSetL, mRevT, mForC, mSeqC, mLcC, pAbs, pMax2, pMin2, pInt1, mDGet, mDPut, mBM, mBM0, pPop, pAppend, pExtend, pSetL, mSub, mDisp, mPs, mPs0, mRevL, mRevLM, pLstOfM, mTupRg, mRg1, mRg2, pPlusM, lstItems, dictOfP, keyP, keysP, val_left, val_mixed, val_draws, put_draws, mLc, mLcM, mLc2, mFor, mSeqI, mRng1, mRng2, mZip, mEnum, mSl, mNoPart, mPart, mSeq, mAsg, mAsg2, mCB, mCons, mNil, mVar, mC, mOp, mUn, pU, mTup, mLst, mRet, mRetN, mLstM, getl, setl, mName, mCall, mCallK, mIf, mIfS, mTest, mAnd, mOr, mNot, mYes, mAndV, mOrV, mNotV, mNext, mNever, mBreak, mCont, mDrop, mChain, mPar, mGTup, mGCons, mGNil, pGcd, pI, pI0, pIx, pTimes, pPlus, pEq, pNe, pLen, pSum, pMaxS, pAll, pAny, pTupOf, pLstOf, pIn, pIsB, pIsi, items_tup, items_lst, items_kl, items_mr, items_tab, items_lot, items_fr, decide_true, decide_false, eqP_int, eqP_bl, eqP_str, eqP_tup2, kit_tt, kit_ii, kit_ib, tyP, mEnd, wipeP, List.map_cons, List.map_nil, List.getElem?_cons_zero, List.getElem?_cons_succ, List.set_cons_zero, List.set_cons_succ, atI_zero, atI_one, if_true, if_false, ite_true, ite_false, Bool.false_eq_true, List.length_cons, List.length_nil, Bool.not_true, Bool.not_false, S__law_is_fraction]
  refine ⟨by decide, by rw [List.length_map]; unfold lim; omega, lc_filter (enc := frP) (out := frP) (p := fun _ => false) (fun q hq kk nn h1 h2 => ?_) ?_⟩
  · simp only [mBits, mEnumC, pSortX, mDNewT, mZipM, mDc, mLenSetL, mDGetT, mDGet2T, mDInT, mDPutT, mLockX, mLockEX, mKeysX, pLstX, pLenX, pMaxT, pSortT, str_to, str_ot, mPar3, mLockV, mLockE, mItemsC, mKeysC, mDGet2, pIsN, isNonP, pRepLM, mTruD, dkOfP, pPopAt, pIndex, mLstRgM, mTruth, pReprA, pLenD, pLstD, mDNew, pRepL, mLenSetN, mDIn, mSortSet, mSortSetL, mRevT, mForC, mSeqC, mLcC, pAbs, pMax2, pMin2, pInt1, mDGet, mDPut, mBM, mBM0, pPop, pAppend, pExtend, pSetL, mSub, mDisp, mPs, mPs0, mRevL, mRevLM, pLstOfM, mTupRg, mRg1, mRg2, pPlusM, lstItems, dictOfP, keyP, keysP, val_left, val_mixed, val_draws, put_draws, mLc, mLcM, mLc2, mFor, mSeqI, mRng1, mRng2, mZip, mEnum, mSl, mNoPart, mPart, mSeq, mAsg, mAsg2, mCB, mCons, mNil, mVar, mC, mOp, mUn, pU, mTup, mLst, mRet, mRetN, mLstM, getl, setl, mName, mCall, mCallK, mIf, mIfS, mTest, mAnd, mOr, mNot, mYes, mAndV, mOrV, mNotV, mNext, mNever, mBreak, mCont, mDrop, mChain, mPar, mGTup, mGCons, mGNil, pGcd, pI, pI0, pIx, pTimes, pPlus, pEq, pNe, pLen, pSum, pMaxS, pAll, pAny, pTupOf, pLstOf, pIn, pIsB, pIsi, items_tup, items_lst, items_kl, items_mr, items_tab, items_lot, items_fr, decide_true, decide_false, eqP_int, eqP_bl, eqP_str, eqP_tup2, kit_tt, kit_ii, kit_ib, tyP, mEnd, wipeP, List.map_cons, List.map_nil, List.getElem?_cons_zero, List.getElem?_cons_succ, List.set_cons_zero, List.set_cons_succ, atI_zero, atI_one, if_true, if_false, ite_true, ite_false, Bool.false_eq_true, List.length_cons, List.length_nil, Bool.not_true, Bool.not_false, S__law_is_fraction]
    refine ⟨trivial, q, rfl, ?_⟩
    have := Rat.num_nonneg.mpr (hT.pos q hq)
    rw [decide_eq_false (by omega), if_neg (by decide)]
    exact h2 rfl
  have en : (qs.filter fun _ => false) = [] := by simp
  rw [en]
  subst hR
  refine ⟨by decide, ?_⟩
  rw [show eqP (PV.lst ([] ++ List.map frP [])) (PV.lst []) μ = some true from eqP_l00 μ]
  simp only
  rw [if_neg (by decide)]
  simp only [mBits, mEnumC, pSortX, mDNewT, mZipM, mDc, mLenSetL, mDGetT, mDGet2T, mDInT, mDPutT, mLockX, mLockEX, mKeysX, pLstX, pLenX, pMaxT, pSortT, str_to, str_ot, mPar3, mLockV, mLockE, mItemsC, mKeysC, mDGet2, pIsN, isNonP, pRepLM, mTruD, dkOfP, pPopAt, pIndex, mLstRgM, mTruth, pReprA, pLenD, pLstD, mDNew, pRepL, mLenSetN, mDIn, mSortSet, mSortSetL, mRevT, mForC, mSeqC, mLcC, pAbs, pMax2, pMin2, pInt1, mDGet, mDPut, mBM, mBM0, pPop, pAppend, pExtend, pSetL, mSub, mDisp, mPs, mPs0, mRevL, mRevLM, pLstOfM, mTupRg, mRg1, mRg2, pPlusM, lstItems, dictOfP, keyP, keysP, val_left, val_mixed, val_draws, put_draws, mLc, mLcM, mLc2, mFor, mSeqI, mRng1, mRng2, mZip, mEnum, mSl, mNoPart, mPart, mSeq, mAsg, mAsg2, mCB, mCons, mNil, mVar, mC, mOp, mUn, pU, mTup, mLst, mRet, mRetN, mLstM, getl, setl, mName, mCall, mCallK, mIf, mIfS, mTest, mAnd, mOr, mNot, mYes, mAndV, mOrV, mNotV, mNext, mNever, mBreak, mCont, mDrop, mChain, mPar, mGTup, mGCons, mGNil, pGcd, pI, pI0, pIx, pTimes, pPlus, pEq, pNe, pLen, pSum, pMaxS, pAll, pAny, pTupOf, pLstOf, pIn, pIsB, pIsi, items_tup, items_lst, items_kl, items_mr, items_tab, items_lot, items_fr, decide_true, decide_false, eqP_int, eqP_bl, eqP_str, eqP_tup2, kit_tt, kit_ii, kit_ib, tyP, mEnd, wipeP, List.map_cons, List.map_nil, List.getElem?_cons_zero, List.getElem?_cons_succ, List.set_cons_zero, List.set_cons_succ, atI_zero, atI_one, if_true, if_false, ite_true, ite_false, Bool.false_eq_true, List.length_cons, List.length_nil, Bool.not_true, Bool.not_false, S__law_total]
  refine ⟨trivial, _, qs, rfl, rfl, hT.sb.mono (by decide), by decide, ?_⟩
  rw [eqP_fro, hT.one, decide_eq_true rfl]
  exact fin_keep hQ
abbrev N__law_least_distance : List Str := ["_law_table_here", "_law_t", "_law_some", "_law_lack", "_law_rests", "_law_found", "_law_near", "_law_rest", "_law_parts"]
theorem sc__law_least_distance : FnScope N__law_least_distance ["_law_table_here", "_law_t"] (defScope s__law_least_distance) := ⟨rfl, rfl, rfl, by decide +kernel, rfl, by decide +kernel, by decide +kernel⟩
theorem ok__law_least_distance (B : Blt mg) (h__law_least_distance : Own K mg "_law_least_distance" s__law_least_distance) (k__law_whole_parts : Ok P w K mg base 3 "_law_whole_parts" s__law_whole_parts ["_law_table_here", "_law_t"] S__law_whole_parts) (k__law_total : Ok P w K mg base 4 "_law_total" s__law_total ["_law_some"] S__law_total) (k__law_minus : Ok P w K mg base 3 "_law_minus" s__law_minus ["_law_one", "_law_other"] S__law_minus) (k__law_over : Ok P w K mg base 3 "_law_over" s__law_over ["_law_one", "_law_other"] S__law_over) : Ok P w K mg base 5 "_law_least_distance" s__law_least_distance ["_law_table_here", "_law_t"] S__law_least_distance := by
  obtain ⟨f_s, fd_s, F_s, g_s⟩ := h__law_least_distance
  obtain ⟨f__law_whole_parts, fd__law_whole_parts, F__law_whole_parts, g__law_whole_parts, b__law_whole_parts, G__law_whole_parts⟩ := k__law_whole_parts
  obtain ⟨f__law_total, fd__law_total, F__law_total, g__law_total, b__law_total, G__law_total⟩ := k__law_total
  obtain ⟨f__law_minus, fd__law_minus, F__law_minus, g__law_minus, b__law_minus, G__law_minus⟩ := k__law_minus
  obtain ⟨f__law_over, fd__law_over, F__law_over, g__law_over, b__law_over, G__law_over⟩ := k__law_over
  refine ⟨f_s, fd_s, F_s, g_s, F_s.binds (fun _ _ _ _ _ _ us hl => match us, hl with | [_, _], _ => rfl), FnG.of F_s sc__law_least_distance (fun xs μ Q h => by first | exact h.1 | exact h.2.1 | (obtain ⟨⟩ := h)) fun cdv A outer s H hr hgd => ⟨_, _, (pss_cons (ps_set (i := 2) sc__law_least_distance.nd rfl (Or.inl rfl) (pe_callG (G__law_whole_parts.mono (by decide)) hr hgd (by rfl) g__law_whole_parts F__law_whole_parts.kp b__law_whole_parts (pa_cons (pv 0) (pa_cons (pv 1) pa_nil))))
 (pss_cons (ps_set (i := 3) sc__law_least_distance.nd rfl (Or.inl rfl) (pe_op op_sub (pe_op op_shlW pe_int (pv 1)) (pe_callB (cr_sum rfl) (by rfl) (B "sum" (by decide)) (by decide +kernel) (pa_cons (pe_lc (own := [("_law_parts", 8), ("_law_rest", 7)]) (by rfl) sc__law_least_distance.nd (pi_seq (pv 2)) (blkOk_by (own := [("_law_parts", 8), ("_law_rest", 7)]) (N := N__law_least_distance) (sc := defScope s__law_least_distance) (by decide +kernel)) (fun _ _ _ _ _ => (pgk_tup K 2 rfl rfl (pgs_cons (pg_name (i := 8) sc__law_least_distance.nd rfl (Or.inl rfl)) (pgs_cons (pg_name (i := 7) sc__law_least_distance.nd rfl (Or.inl rfl)) pgs_nil)) rfl rfl)) (fun _ _ _ _ _ => pts_nil) (fun _ _ _ _ _ => (pv 8))) pa_nil))))
 (pss_cons (ps_set (i := 4) sc__law_least_distance.nd rfl (Or.inl rfl) (pe_revL (pe_callB (cr_sortX hr.units) (by rfl) (B "sorted" (by decide)) (by decide +kernel) (pa_cons (pe_lc (own := [("_law_parts", 8), ("_law_rest", 7)]) (by rfl) sc__law_least_distance.nd (pi_seq (pv 2)) (blkOk_by (own := [("_law_parts", 8), ("_law_rest", 7)]) (N := N__law_least_distance) (sc := defScope s__law_least_distance) (by decide +kernel)) (fun _ _ _ _ _ => (pgk_tup K 2 rfl rfl (pgs_cons (pg_name (i := 8) sc__law_least_distance.nd rfl (Or.inl rfl)) (pgs_cons (pg_name (i := 7) sc__law_least_distance.nd rfl (Or.inl rfl)) pgs_nil)) rfl rfl)) (fun _ _ _ _ _ => pts_nil) (fun _ _ _ _ _ => (pe_tup (pa_cons (pe_op op_divX (pe_op (opk_times K rfl) (pe_op op_shlW pe_int pe_int) (pe_ix (ixk_seq K rfl) (pv 7) pe_int (fun _ _ => rfl))) (pe_ix (ixk_seq K rfl) (pv 7) pe_int (fun _ _ => rfl))) (pa_cons (pv 7) pa_nil))))) pa_nil))))
 (pss_cons (ps_set (i := 5) sc__law_least_distance.nd rfl (Or.inl rfl) (pe_callG (G__law_total.mono (by decide)) hr hgd (by rfl) g__law_total F__law_total.kp b__law_total (pa_cons (pe_lc (own := [("_law_near", 6), ("_law_rest", 7)]) (by rfl) sc__law_least_distance.nd (pi_seq (pe_slice sl_any (pv 4) po_none (po_some (pv 3)))) (blkOk_by (own := [("_law_near", 6), ("_law_rest", 7)]) (N := N__law_least_distance) (sc := defScope s__law_least_distance) (by decide +kernel)) (fun _ _ _ _ _ => (pgk_tup K 2 rfl rfl (pgs_cons (pg_name (i := 6) sc__law_least_distance.nd rfl (Or.inl rfl)) (pgs_cons (pg_name (i := 7) sc__law_least_distance.nd rfl (Or.inl rfl)) pgs_nil)) rfl rfl)) (fun _ _ _ _ _ => pts_nil) (fun _ _ _ _ _ => (pek_call K rfl (G__law_minus.mono (by decide)) hr hgd (by rfl) g__law_minus F__law_minus.kp b__law_minus (pa_cons (pe_tup (pa_cons pe_int (pa_cons pe_int pa_nil))) (pa_cons (pv 7) pa_nil))))) pa_nil)))
 (pss_one (ps_ret (pe_callG (G__law_over.mono (by decide)) hr hgd (by rfl) g__law_over F__law_over.kp b__law_over (pa_cons (pv 5) (pa_cons (pe_tup (pa_cons (pe_op op_shlW pe_int (pv 1)) (pa_cons pe_int pa_nil))) pa_nil))))))))), (by (try dsimp only [cxOf]); exact inferInstance), ?_⟩⟩
  intro xs μ Q hS
  obtain ⟨_, qs, ps, t, rfl, hT, ht, hN, hQ⟩ := hS
  rw [show startP N__law_least_distance [tabP qs, .int t] = [some (tabP qs), some (.int t), none, none, none, none, none, none, none] from rfl]
  have h8 := hT.len
  have hqden : ∀ o ∈ qs, o.den < 2 ^ 44 := fun q hq => by
    obtain ⟨D, d0, d1, d2⟩ := hT.com
    exact Nat.lt_of_le_of_lt (Nat.le_of_dvd d0 (cm_den (d2 q hq))) d1
  have hlk := lck_bd (t := t) hT.one
  refine stm_of fun R hR => ?_
  simp only [mBits, mEnumC, pSortX, mDNewT, mZipM, mDc, mLenSetL, mDGetT, mDGet2T, mDInT, mDPutT, mLockX, mLockEX, mKeysX, pLstX, pLenX, pMaxT, pSortT, str_to, str_ot, mPar3, mLockV, mLockE, mItemsC, mKeysC, mDGet2, pIsN, isNonP, pRepLM, mTruD, dkOfP, pPopAt, pIndex, mLstRgM, mTruth, pReprA, pLenD, pLstD, mDNew, pRepL, mLenSetN, mDIn, mSortSet, mSortSetL, mRevT, mForC, mSeqC, mLcC, pAbs, pMax2, pMin2, pInt1, mDGet, mDPut, mBM, mBM0, pPop, pAppend, pExtend, pSetL, mSub, mDisp, mPs, mPs0, mRevL, mRevLM, pLstOfM, mTupRg, mRg1, mRg2, pPlusM, lstItems, dictOfP, keyP, keysP, val_left, val_mixed, val_draws, put_draws, mLc, mLcM, mLc2, mFor, mSeqI, mRng1, mRng2, mZip, mEnum, mSl, mNoPart, mPart, mSeq, mAsg, mAsg2, mCB, mCons, mNil, mVar, mC, mOp, mUn, pU, mTup, mLst, mRet, mRetN, mLstM, getl, setl, mName, mCall, mCallK, mIf, mIfS, mTest, mAnd, mOr, mNot, mYes, mAndV, mOrV, mNotV, mNext, mNever, mBreak, mCont, mDrop, mChain, mPar, mGTup, mGCons, mGNil, pGcd, pI, pI0, pIx, pTimes, pPlus, pEq, pNe, pLen, pSum, pMaxS, pAll, pAny, pTupOf, pLstOf, pIn, pIsB, pIsi, items_tup, items_lst, items_kl, items_mr, items_tab, items_lot, items_fr, decide_true, decide_false, eqP_int, eqP_bl, eqP_str, eqP_tup2, kit_tt, kit_ii, kit_ib, tyP, mEnd, wipeP, List.map_cons, List.map_nil, List.getElem?_cons_zero, List.getElem?_cons_succ, List.set_cons_zero, List.set_cons_succ, atI_zero, atI_one, if_true, if_false, ite_true, ite_false, Bool.false_eq_true, List.length_cons, List.length_nil, Bool.not_true, Bool.not_false, S__law_whole_parts]
  refine ⟨trivial, qs, t, rfl, hT, ht, ?_⟩
  subst hR
  refine stm_of fun R hR => ?_
  simp only [mBits, mEnumC, pSortX, mDNewT, mZipM, mDc, mLenSetL, mDGetT, mDGet2T, mDInT, mDPutT, mLockX, mLockEX, mKeysX, pLstX, pLenX, pMaxT, pSortT, str_to, str_ot, mPar3, mLockV, mLockE, mItemsC, mKeysC, mDGet2, pIsN, isNonP, pRepLM, mTruD, dkOfP, pPopAt, pIndex, mLstRgM, mTruth, pReprA, pLenD, pLstD, mDNew, pRepL, mLenSetN, mDIn, mSortSet, mSortSetL, mRevT, mForC, mSeqC, mLcC, pAbs, pMax2, pMin2, pInt1, mDGet, mDPut, mBM, mBM0, pPop, pAppend, pExtend, pSetL, mSub, mDisp, mPs, mPs0, mRevL, mRevLM, pLstOfM, mTupRg, mRg1, mRg2, pPlusM, lstItems, dictOfP, keyP, keysP, val_left, val_mixed, val_draws, put_draws, mLc, mLcM, mLc2, mFor, mSeqI, mRng1, mRng2, mZip, mEnum, mSl, mNoPart, mPart, mSeq, mAsg, mAsg2, mCB, mCons, mNil, mVar, mC, mOp, mUn, pU, mTup, mLst, mRet, mRetN, mLstM, getl, setl, mName, mCall, mCallK, mIf, mIfS, mTest, mAnd, mOr, mNot, mYes, mAndV, mOrV, mNotV, mNext, mNever, mBreak, mCont, mDrop, mChain, mPar, mGTup, mGCons, mGNil, pGcd, pI, pI0, pIx, pTimes, pPlus, pEq, pNe, pLen, pSum, pMaxS, pAll, pAny, pTupOf, pLstOf, pIn, pIsB, pIsi, items_tup, items_lst, items_kl, items_mr, items_tab, items_lot, items_fr, decide_true, decide_false, eqP_int, eqP_bl, eqP_str, eqP_tup2, kit_tt, kit_ii, kit_ib, tyP, mEnd, wipeP, List.map_cons, List.map_nil, List.getElem?_cons_zero, List.getElem?_cons_succ, List.set_cons_zero, List.set_cons_succ, atI_zero, atI_one, if_true, if_false, ite_true, ite_false, Bool.false_eq_true, List.length_cons, List.length_nil, Bool.not_true, Bool.not_false]
  refine ⟨shl_ok (n := 1) (by decide) (by omega), by decide, by rw [List.length_map]; unfold lim; omega, lc_map (enc := wpP t) (out := fun q => PV.int (flr q t)) (fun q hq kk hk => ?_) ?_⟩
  · simp only [mBits, mEnumC, pSortX, mDNewT, mZipM, mDc, mLenSetL, mDGetT, mDGet2T, mDInT, mDPutT, mLockX, mLockEX, mKeysX, pLstX, pLenX, pMaxT, pSortT, str_to, str_ot, mPar3, mLockV, mLockE, mItemsC, mKeysC, mDGet2, pIsN, isNonP, pRepLM, mTruD, dkOfP, pPopAt, pIndex, mLstRgM, mTruth, pReprA, pLenD, pLstD, mDNew, pRepL, mLenSetN, mDIn, mSortSet, mSortSetL, mRevT, mForC, mSeqC, mLcC, pAbs, pMax2, pMin2, pInt1, mDGet, mDPut, mBM, mBM0, pPop, pAppend, pExtend, pSetL, mSub, mDisp, mPs, mPs0, mRevL, mRevLM, pLstOfM, mTupRg, mRg1, mRg2, pPlusM, lstItems, dictOfP, keyP, keysP, val_left, val_mixed, val_draws, put_draws, mLc, mLcM, mLc2, mFor, mSeqI, mRng1, mRng2, mZip, mEnum, mSl, mNoPart, mPart, mSeq, mAsg, mAsg2, mCB, mCons, mNil, mVar, mC, mOp, mUn, pU, mTup, mLst, mRet, mRetN, mLstM, getl, setl, mName, mCall, mCallK, mIf, mIfS, mTest, mAnd, mOr, mNot, mYes, mAndV, mOrV, mNotV, mNext, mNever, mBreak, mCont, mDrop, mChain, mPar, mGTup, mGCons, mGNil, pGcd, pI, pI0, pIx, pTimes, pPlus, pEq, pNe, pLen, pSum, pMaxS, pAll, pAny, pTupOf, pLstOf, pIn, pIsB, pIsi, items_tup, items_lst, items_kl, items_mr, items_tab, items_lot, items_fr, decide_true, decide_false, eqP_int, eqP_bl, eqP_str, eqP_tup2, kit_tt, kit_ii, kit_ib, tyP, mEnd, wipeP, List.map_cons, List.map_nil, List.getElem?_cons_zero, List.getElem?_cons_succ, List.set_cons_zero, List.set_cons_succ, atI_zero, atI_one, if_true, if_false, ite_true, ite_false, Bool.false_eq_true, List.length_cons, List.length_nil, Bool.not_true, Bool.not_false, wpP]
    exact ⟨trivial, hk⟩
  have e1 : ([] : List PV) ++ (qs.map fun q => PV.int (flr q t)) = (qs.map fun q => flr q t).map PV.int := by rw [List.map_map]; rfl
  rw [e1, intsP_map]
  simp only
  have eL : (1 : Int) * 2 ^ ((t : Int)).toNat - (qs.map fun q => flr q t).sum = lck t qs := by
    unfold lck
    rw [Int.one_mul, Int.toNat_natCast, Int.natCast_pow]
    rfl
  rw [eL]
  subst hR
  refine stm_of fun R hR => ?_
  simp only [mBits, mEnumC, pSortX, mDNewT, mZipM, mDc, mLenSetL, mDGetT, mDGet2T, mDInT, mDPutT, mLockX, mLockEX, mKeysX, pLstX, pLenX, pMaxT, pSortT, str_to, str_ot, mPar3, mLockV, mLockE, mItemsC, mKeysC, mDGet2, pIsN, isNonP, pRepLM, mTruD, dkOfP, pPopAt, pIndex, mLstRgM, mTruth, pReprA, pLenD, pLstD, mDNew, pRepL, mLenSetN, mDIn, mSortSet, mSortSetL, mRevT, mForC, mSeqC, mLcC, pAbs, pMax2, pMin2, pInt1, mDGet, mDPut, mBM, mBM0, pPop, pAppend, pExtend, pSetL, mSub, mDisp, mPs, mPs0, mRevL, mRevLM, pLstOfM, mTupRg, mRg1, mRg2, pPlusM, lstItems, dictOfP, keyP, keysP, val_left, val_mixed, val_draws, put_draws, mLc, mLcM, mLc2, mFor, mSeqI, mRng1, mRng2, mZip, mEnum, mSl, mNoPart, mPart, mSeq, mAsg, mAsg2, mCB, mCons, mNil, mVar, mC, mOp, mUn, pU, mTup, mLst, mRet, mRetN, mLstM, getl, setl, mName, mCall, mCallK, mIf, mIfS, mTest, mAnd, mOr, mNot, mYes, mAndV, mOrV, mNotV, mNext, mNever, mBreak, mCont, mDrop, mChain, mPar, mGTup, mGCons, mGNil, pGcd, pI, pI0, pIx, pTimes, pPlus, pEq, pNe, pLen, pSum, pMaxS, pAll, pAny, pTupOf, pLstOf, pIn, pIsB, pIsi, items_tup, items_lst, items_kl, items_mr, items_tab, items_lot, items_fr, decide_true, decide_false, eqP_int, eqP_bl, eqP_str, eqP_tup2, kit_tt, kit_ii, kit_ib, tyP, mEnd, wipeP, List.map_cons, List.map_nil, List.getElem?_cons_zero, List.getElem?_cons_succ, List.set_cons_zero, List.set_cons_succ, atI_zero, atI_one, if_true, if_false, ite_true, ite_false, Bool.false_eq_true, List.length_cons, List.length_nil, Bool.not_true, Bool.not_false]
  refine ⟨by decide, by rw [List.length_map]; unfold lim; omega, lc_map (enc := wpP t) (out := fun q => srP (rsd q t)) (fun q hq kk hk => ?_) ?_⟩
  · have hr := rsd_sm (t := t) (hqden q hq)
    simp only [mBits, mEnumC, pSortX, mDNewT, mZipM, mDc, mLenSetL, mDGetT, mDGet2T, mDInT, mDPutT, mLockX, mLockEX, mKeysX, pLstX, pLenX, pMaxT, pSortT, str_to, str_ot, mPar3, mLockV, mLockE, mItemsC, mKeysC, mDGet2, pIsN, isNonP, pRepLM, mTruD, dkOfP, pPopAt, pIndex, mLstRgM, mTruth, pReprA, pLenD, pLstD, mDNew, pRepL, mLenSetN, mDIn, mSortSet, mSortSetL, mRevT, mForC, mSeqC, mLcC, pAbs, pMax2, pMin2, pInt1, mDGet, mDPut, mBM, mBM0, pPop, pAppend, pExtend, pSetL, mSub, mDisp, mPs, mPs0, mRevL, mRevLM, pLstOfM, mTupRg, mRg1, mRg2, pPlusM, lstItems, dictOfP, keyP, keysP, val_left, val_mixed, val_draws, put_draws, mLc, mLcM, mLc2, mFor, mSeqI, mRng1, mRng2, mZip, mEnum, mSl, mNoPart, mPart, mSeq, mAsg, mAsg2, mCB, mCons, mNil, mVar, mC, mOp, mUn, pU, mTup, mLst, mRet, mRetN, mLstM, getl, setl, mName, mCall, mCallK, mIf, mIfS, mTest, mAnd, mOr, mNot, mYes, mAndV, mOrV, mNotV, mNext, mNever, mBreak, mCont, mDrop, mChain, mPar, mGTup, mGCons, mGNil, pGcd, pI, pI0, pIx, pTimes, pPlus, pEq, pNe, pLen, pSum, pMaxS, pAll, pAny, pTupOf, pLstOf, pIn, pIsB, pIsi, items_tup, items_lst, items_kl, items_mr, items_tab, items_lot, items_fr, decide_true, decide_false, eqP_int, eqP_bl, eqP_str, eqP_tup2, kit_tt, kit_ii, kit_ib, tyP, mEnd, wipeP, List.map_cons, List.map_nil, List.getElem?_cons_zero, List.getElem?_cons_succ, List.set_cons_zero, List.set_cons_succ, atI_zero, atI_one, if_true, if_false, ite_true, ite_false, Bool.false_eq_true, List.length_cons, List.length_nil, Bool.not_true, Bool.not_false, wpP, frP]
    rw [ky_eq]
    exact ⟨trivial, shl_ok (n := 1) (j := 80) (by decide) (by decide), mulOk (m := 90) (n := 44) (by decide) hr.1 (by decide), divN _ (rsd q t).den_pos hr.2, by decide, hk⟩
  have e2 : ([] : List PV) ++ (qs.map fun q => srP (rsd q t)) = (qs.map fun q => rsd q t).map srP := by rw [List.map_map]; rfl
  rw [e2, dats_sr]
  simp only
  obtain ⟨a1, a2, a3⟩ := sr_all (qs.map fun q => rsd q t)
  refine ⟨⟨a1, a2, by rw [List.length_map, List.length_map]; omega, a3⟩, fun zs hzp hzs => ?_⟩
  obtain ⟨zq, hzq, rfl⟩ := map_perm srP hzp _ rfl
  obtain ⟨D, d0, d1, d2'⟩ := hT.com
  have hcm : ∀ r ∈ zq, Cm D r := fun r hr => by
    obtain ⟨q, hq, rfl⟩ := List.mem_map.mp (hzq.mem_iff.mp hr)
    exact rsd_cm (d2' q hq) t
  have hasc : zq.Pairwise fun a b => a ≤ b := by
    rw [List.pairwise_map] at hzs
    refine (List.Pairwise.and_mem.mp hzs).imp fun {a b} h => ?_
    obtain ⟨ma, mb, h⟩ := h
    refine Rat.not_lt.mp fun hlt => ?_
    have h1 := ky_lt d1 d0 (hcm b mb) (hcm a ma) hlt
    have h2 := sr_le h
    omega
  have hdesc : zq.reverse.Pairwise fun a b => b ≤ a := List.pairwise_reverse.mpr hasc
  have hperm : zq.reverse.Perm (qs.map fun q => rsd q t) := (List.reverse_perm zq).trans hzq
  obtain ⟨L, eLn⟩ : ∃ L : Nat, lck t qs = (L : Int) := ⟨(lck t qs).toNat, by omega⟩
  have hls := least_sum hN hT.one hperm hdesc (L := L) eLn.symm
  rw [← List.map_reverse, eLn]
  have hzl : zq.reverse.length ≤ 8 := by rw [hperm.length_eq, List.length_map]; exact h8
  have hcm2 : ∀ r ∈ zq.reverse, Cm D r ∧ 0 ≤ r ∧ r < 1 := fun r hr => by
    obtain ⟨q, hq, rfl⟩ := List.mem_map.mp (hperm.mem_iff.mp hr)
    exact ⟨rsd_cm (d2' q hq) t, rsd_bd q t⟩
  generalize zq.reverse = Z at *
  subst hR
  refine stm_of fun R hR => ?_
  simp only [mBits, mEnumC, pSortX, mDNewT, mZipM, mDc, mLenSetL, mDGetT, mDGet2T, mDInT, mDPutT, mLockX, mLockEX, mKeysX, pLstX, pLenX, pMaxT, pSortT, str_to, str_ot, mPar3, mLockV, mLockE, mItemsC, mKeysC, mDGet2, pIsN, isNonP, pRepLM, mTruD, dkOfP, pPopAt, pIndex, mLstRgM, mTruth, pReprA, pLenD, pLstD, mDNew, pRepL, mLenSetN, mDIn, mSortSet, mSortSetL, mRevT, mForC, mSeqC, mLcC, pAbs, pMax2, pMin2, pInt1, mDGet, mDPut, mBM, mBM0, pPop, pAppend, pExtend, pSetL, mSub, mDisp, mPs, mPs0, mRevL, mRevLM, pLstOfM, mTupRg, mRg1, mRg2, pPlusM, lstItems, dictOfP, keyP, keysP, val_left, val_mixed, val_draws, put_draws, mLc, mLcM, mLc2, mFor, mSeqI, mRng1, mRng2, mZip, mEnum, mSl, mNoPart, mPart, mSeq, mAsg, mAsg2, mCB, mCons, mNil, mVar, mC, mOp, mUn, pU, mTup, mLst, mRet, mRetN, mLstM, getl, setl, mName, mCall, mCallK, mIf, mIfS, mTest, mAnd, mOr, mNot, mYes, mAndV, mOrV, mNotV, mNext, mNever, mBreak, mCont, mDrop, mChain, mPar, mGTup, mGCons, mGNil, pGcd, pI, pI0, pIx, pTimes, pPlus, pEq, pNe, pLen, pSum, pMaxS, pAll, pAny, pTupOf, pLstOf, pIn, pIsB, pIsi, items_tup, items_lst, items_kl, items_mr, items_tab, items_lot, items_fr, decide_true, decide_false, eqP_int, eqP_bl, eqP_str, eqP_tup2, kit_tt, kit_ii, kit_ib, tyP, mEnd, wipeP, List.map_cons, List.map_nil, List.getElem?_cons_zero, List.getElem?_cons_succ, List.set_cons_zero, List.set_cons_succ, atI_zero, atI_one, if_true, if_false, ite_true, ite_false, Bool.false_eq_true, List.length_cons, List.length_nil, Bool.not_true, Bool.not_false, S__law_minus, S__law_total]
  rw [show cutP (Z.map srP) none (some (L : Int)) = (Z.take L).map srP by rw [List.map_take]; exact cut_to _ L]
  refine ⟨by decide, by rw [List.length_map, List.length_take]; unfold lim; omega, lc_map (enc := srP) (out := fun r => frP (1 - r)) (fun r hr kk hk => ?_) ?_⟩
  · simp only [mBits, mEnumC, pSortX, mDNewT, mZipM, mDc, mLenSetL, mDGetT, mDGet2T, mDInT, mDPutT, mLockX, mLockEX, mKeysX, pLstX, pLenX, pMaxT, pSortT, str_to, str_ot, mPar3, mLockV, mLockE, mItemsC, mKeysC, mDGet2, pIsN, isNonP, pRepLM, mTruD, dkOfP, pPopAt, pIndex, mLstRgM, mTruth, pReprA, pLenD, pLstD, mDNew, pRepL, mLenSetN, mDIn, mSortSet, mSortSetL, mRevT, mForC, mSeqC, mLcC, pAbs, pMax2, pMin2, pInt1, mDGet, mDPut, mBM, mBM0, pPop, pAppend, pExtend, pSetL, mSub, mDisp, mPs, mPs0, mRevL, mRevLM, pLstOfM, mTupRg, mRg1, mRg2, pPlusM, lstItems, dictOfP, keyP, keysP, val_left, val_mixed, val_draws, put_draws, mLc, mLcM, mLc2, mFor, mSeqI, mRng1, mRng2, mZip, mEnum, mSl, mNoPart, mPart, mSeq, mAsg, mAsg2, mCB, mCons, mNil, mVar, mC, mOp, mUn, pU, mTup, mLst, mRet, mRetN, mLstM, getl, setl, mName, mCall, mCallK, mIf, mIfS, mTest, mAnd, mOr, mNot, mYes, mAndV, mOrV, mNotV, mNext, mNever, mBreak, mCont, mDrop, mChain, mPar, mGTup, mGCons, mGNil, pGcd, pI, pI0, pIx, pTimes, pPlus, pEq, pNe, pLen, pSum, pMaxS, pAll, pAny, pTupOf, pLstOf, pIn, pIsB, pIsi, items_tup, items_lst, items_kl, items_mr, items_tab, items_lot, items_fr, decide_true, decide_false, eqP_int, eqP_bl, eqP_str, eqP_tup2, kit_tt, kit_ii, kit_ib, tyP, mEnd, wipeP, List.map_cons, List.map_nil, List.getElem?_cons_zero, List.getElem?_cons_succ, List.set_cons_zero, List.set_cons_succ, atI_zero, atI_one, if_true, if_false, ite_true, ite_false, Bool.false_eq_true, List.length_cons, List.length_nil, Bool.not_true, Bool.not_false, srP, S__law_minus]
    have hr2 := hcm2 r (List.mem_of_mem_take hr)
    have s1 : Sm 4000 r := ((hr2.1.sm d0 d1 (m := 1) hr2.2.1 (by have := hr2.2.2; grind)).mono (show 44 + 1 ≤ 4000 by decide))
    have s2 : Sm 4000 (1 : Rat) := ⟨by decide +kernel, by decide +kernel⟩
    exact ⟨trivial, by decide, trivial, 1, r, rfl, s2, s1, hk⟩
  have hsb : Sb 3900 ((Z.take L).map fun r => 1 - r) := by
    refine ⟨fun q hq => ?_, ?_, D, d0, Nat.lt_of_lt_of_le d1 (Nat.pow_le_pow_right (by decide) (by decide)), fun q hq => ?_⟩
    · obtain ⟨r, hr, rfl⟩ := List.mem_map.mp hq
      have := (hcm2 r (List.mem_of_mem_take hr)).2.2
      grind
    · have hb := sum_le_len (fun q hq => by
        obtain ⟨r, hr, rfl⟩ := List.mem_map.mp hq
        have := (hcm2 r (List.mem_of_mem_take hr)).2.1
        show 1 - r ≤ 1
        grind : ∀ q ∈ (Z.take L).map fun r => 1 - r, q ≤ 1)
      have hl : ((Z.take L).map fun r => 1 - r).length ≤ 8 := by rw [List.length_map, List.length_take]; omega
      have h9 : (((Z.take L).map fun r => 1 - r).length : Rat) < ((2 ^ 40 : Nat) : Rat) := by exact_mod_cast (show ((Z.take L).map fun r => 1 - r).length < 2 ^ 40 by omega)
      exact Std.lt_of_le_of_lt hb h9
    · obtain ⟨r, hr, rfl⟩ := List.mem_map.mp hq
      exact (cm_int D 1).sub (hcm2 r (List.mem_of_mem_take hr)).1
  have e3 : ([] : List PV) ++ ((Z.take L).map fun r => frP (1 - r)) = ((Z.take L).map fun r => 1 - r).map frP := by rw [List.map_map]; rfl
  rw [e3]
  refine ⟨trivial, _, _, rfl, rfl, hsb, ?_⟩
  subst hR
  simp only [mBits, mEnumC, pSortX, mDNewT, mZipM, mDc, mLenSetL, mDGetT, mDGet2T, mDInT, mDPutT, mLockX, mLockEX, mKeysX, pLstX, pLenX, pMaxT, pSortT, str_to, str_ot, mPar3, mLockV, mLockE, mItemsC, mKeysC, mDGet2, pIsN, isNonP, pRepLM, mTruD, dkOfP, pPopAt, pIndex, mLstRgM, mTruth, pReprA, pLenD, pLstD, mDNew, pRepL, mLenSetN, mDIn, mSortSet, mSortSetL, mRevT, mForC, mSeqC, mLcC, pAbs, pMax2, pMin2, pInt1, mDGet, mDPut, mBM, mBM0, pPop, pAppend, pExtend, pSetL, mSub, mDisp, mPs, mPs0, mRevL, mRevLM, pLstOfM, mTupRg, mRg1, mRg2, pPlusM, lstItems, dictOfP, keyP, keysP, val_left, val_mixed, val_draws, put_draws, mLc, mLcM, mLc2, mFor, mSeqI, mRng1, mRng2, mZip, mEnum, mSl, mNoPart, mPart, mSeq, mAsg, mAsg2, mCB, mCons, mNil, mVar, mC, mOp, mUn, pU, mTup, mLst, mRet, mRetN, mLstM, getl, setl, mName, mCall, mCallK, mIf, mIfS, mTest, mAnd, mOr, mNot, mYes, mAndV, mOrV, mNotV, mNext, mNever, mBreak, mCont, mDrop, mChain, mPar, mGTup, mGCons, mGNil, pGcd, pI, pI0, pIx, pTimes, pPlus, pEq, pNe, pLen, pSum, pMaxS, pAll, pAny, pTupOf, pLstOf, pIn, pIsB, pIsi, items_tup, items_lst, items_kl, items_mr, items_tab, items_lot, items_fr, decide_true, decide_false, eqP_int, eqP_bl, eqP_str, eqP_tup2, kit_tt, kit_ii, kit_ib, tyP, mEnd, wipeP, List.map_cons, List.map_nil, List.getElem?_cons_zero, List.getElem?_cons_succ, List.set_cons_zero, List.set_cons_succ, atI_zero, atI_one, if_true, if_false, ite_true, ite_false, Bool.false_eq_true, List.length_cons, List.length_nil, Bool.not_true, Bool.not_false, S__law_over]
  have ep : (1 : Int) * 2 ^ ((t : Int)).toNat = ((2 ^ t : Nat) : Int) := by rw [Int.one_mul, Int.toNat_natCast, Int.natCast_pow]; rfl
  have ef : PV.tup [.int ((1 : Int) * 2 ^ ((t : Int)).toNat), .int 1] = frP ((2 ^ t : Nat) : Rat) := by rw [ep]; rfl
  rw [ef]
  have hpt0 := Nat.two_pow_pos t
  have hpt : 2 ^ t ≤ 2 ^ 40 := Nat.pow_le_pow_right (by decide) ht
  have z1 : (2 : Nat) ^ 40 < 2 ^ 4000 := Nat.pow_lt_pow_right (by decide) (by decide)
  have s2 : Sm 4000 ((2 ^ t : Nat) : Rat) := ⟨by rw [Rat.num_natCast, Int.natAbs_natCast]; omega, by rw [Rat.den_natCast]; exact Nat.one_lt_two_pow (by decide)⟩
  refine ⟨shl_ok (n := 1) (by decide) (by omega), by decide, trivial, _, _, rfl, hsb.sum_sm.mono (show 3900 + 40 ≤ 4000 by decide), s2, p2_pos t, ?_⟩
  rw [hls]
  exact fin_keep hQ
abbrev N__law_parted : List Str := ["_law_parts", "_law_n", "_law_found", "_law_first", "_law_rest"]
theorem sc__law_parted : FnScope N__law_parted ["_law_parts", "_law_n"] (defScope s__law_parted) := ⟨rfl, rfl, rfl, by decide +kernel, rfl, by decide +kernel, by decide +kernel⟩
theorem ok__law_parted_step (dd : Nat) (B : Blt mg) (h__law_parted : Own K mg "_law_parted" s__law_parted) (k__law_parted : Ok P w K mg base (1 + dd) "_law_parted" s__law_parted ["_law_parts", "_law_n"] (S__law_parted_n dd)) : Ok P w K mg base (1 + dd + 1) "_law_parted" s__law_parted ["_law_parts", "_law_n"] (S__law_parted_n (dd + 1)) := by
  obtain ⟨f_s, fd_s, F_s, g_s⟩ := h__law_parted
  obtain ⟨f__law_parted, fd__law_parted, F__law_parted, g__law_parted, b__law_parted, G__law_parted⟩ := k__law_parted
  refine ⟨f_s, fd_s, F_s, g_s, F_s.binds (fun _ _ _ _ _ _ us hl => match us, hl with | [_, _], _ => rfl), FnG.of F_s sc__law_parted (fun xs μ Q h => by first | exact h.1 | exact h.2.1 | (obtain ⟨⟩ := h)) fun cdv A outer s H hr hgd => ⟨_, _, (pss_cons (ps_if (pt_cmpR (op_eqX hr.units) (pv 1) pe_int (nomark _))
 (pss_one (ps_ret (pe_lst (pa_cons (pe_tup (pa_cons (pv 0) pa_nil)) pa_nil))))
 pss_nil)
 (pss_cons (ps_set (i := 2) sc__law_parted.nd rfl (Or.inl rfl) (peLM (pe_lst pa_nil)))
 (pss_cons (ps_for PassesOwn.never rfl (pi_range1 (by rfl) (B "range" (by decide)) (pa_cons (pe_op op_plus (pv 0) pe_int) pa_nil)) (pg_name (i := 3) sc__law_parted.nd rfl (Or.inr rfl))
 (pss_one (ps_expr (pe_bm PySem.F.plainAttrs_list PySem.F.slot_list_extend PySem.F.type_list_extend mt_extend (pv 2) (pa_cons (pe_lc (own := [("_law_rest", 4)]) (by rfl) sc__law_parted.nd (pi_seq (pe_callG (G__law_parted.mono (by omega)) hr hgd (by rfl) g__law_parted F__law_parted.kp b__law_parted (pa_cons (pe_op op_sub (pv 0) (pv 3)) (pa_cons (pe_op op_sub (pv 1) pe_int) pa_nil)))) (blkOk_by (own := [("_law_rest", 4)]) (N := N__law_parted) (sc := defScope s__law_parted) (by decide +kernel)) (fun _ _ _ _ _ => (pg_name (i := 4) sc__law_parted.nd rfl (Or.inl rfl))) (fun _ _ _ _ _ => pts_nil) (fun _ _ _ _ _ => (pe_op (opk_plus K rfl) (pe_tup (pa_cons (pv 3) pa_nil)) (pv 4)))) pa_nil)))))
 (pss_one (ps_ret (pv 2)))))), (by (try dsimp only [cxOf]); exact inferInstance), ?_⟩⟩
  intro xs μ Q hS
  obtain ⟨_, _, m, n, rfl, hd, h1, h4, hm, hQ⟩ := hS
  rw [show startP N__law_parted [.int m, .int n] = [some (.int m), some (.int n), none, none, none] from rfl]
  refine stm_of fun R hR => ?_
  simp only [mBits, mEnumC, pSortX, mDNewT, mZipM, mDc, mLenSetL, mDGetT, mDGet2T, mDInT, mDPutT, mLockX, mLockEX, mKeysX, pLstX, pLenX, pMaxT, pSortT, str_to, str_ot, mPar3, mLockV, mLockE, mItemsC, mKeysC, mDGet2, pIsN, isNonP, pRepLM, mTruD, dkOfP, pPopAt, pIndex, mLstRgM, mTruth, pReprA, pLenD, pLstD, mDNew, pRepL, mLenSetN, mDIn, mSortSet, mSortSetL, mRevT, mForC, mSeqC, mLcC, pAbs, pMax2, pMin2, pInt1, mDGet, mDPut, mBM, mBM0, pPop, pAppend, pExtend, pSetL, mSub, mDisp, mPs, mPs0, mRevL, mRevLM, pLstOfM, mTupRg, mRg1, mRg2, pPlusM, lstItems, dictOfP, keyP, keysP, val_left, val_mixed, val_draws, put_draws, mLc, mLcM, mLc2, mFor, mSeqI, mRng1, mRng2, mZip, mEnum, mSl, mNoPart, mPart, mSeq, mAsg, mAsg2, mCB, mCons, mNil, mVar, mC, mOp, mUn, pU, mTup, mLst, mRet, mRetN, mLstM, getl, setl, mName, mCall, mCallK, mIf, mIfS, mTest, mAnd, mOr, mNot, mYes, mAndV, mOrV, mNotV, mNext, mNever, mBreak, mCont, mDrop, mChain, mPar, mGTup, mGCons, mGNil, pGcd, pI, pI0, pIx, pTimes, pPlus, pEq, pNe, pLen, pSum, pMaxS, pAll, pAny, pTupOf, pLstOf, pIn, pIsB, pIsi, items_tup, items_lst, items_kl, items_mr, items_tab, items_lot, items_fr, decide_true, decide_false, eqP_int, eqP_bl, eqP_str, eqP_tup2, kit_tt, kit_ii, kit_ib, tyP, mEnd, wipeP, List.map_cons, List.map_nil, List.getElem?_cons_zero, List.getElem?_cons_succ, List.set_cons_zero, List.set_cons_succ, atI_zero, atI_one, if_true, if_false, ite_true, ite_false, Bool.false_eq_true, List.length_cons, List.length_nil, Bool.not_true, Bool.not_false]
  by_cases c : n = 1
  · subst c
    rw [decide_eq_true (by decide), if_pos rfl]
    exact ⟨by decide, by decide, fin_keep hQ⟩
  rw [decide_eq_false (by omega), if_neg (by decide)]
  obtain ⟨k, rfl⟩ : ∃ k, n = k + 2 := ⟨n - 2, by omega⟩
  subst hR
  refine stm_of fun R hR => ?_
  simp only [mBits, mEnumC, pSortX, mDNewT, mZipM, mDc, mLenSetL, mDGetT, mDGet2T, mDInT, mDPutT, mLockX, mLockEX, mKeysX, pLstX, pLenX, pMaxT, pSortT, str_to, str_ot, mPar3, mLockV, mLockE, mItemsC, mKeysC, mDGet2, pIsN, isNonP, pRepLM, mTruD, dkOfP, pPopAt, pIndex, mLstRgM, mTruth, pReprA, pLenD, pLstD, mDNew, pRepL, mLenSetN, mDIn, mSortSet, mSortSetL, mRevT, mForC, mSeqC, mLcC, pAbs, pMax2, pMin2, pInt1, mDGet, mDPut, mBM, mBM0, pPop, pAppend, pExtend, pSetL, mSub, mDisp, mPs, mPs0, mRevL, mRevLM, pLstOfM, mTupRg, mRg1, mRg2, pPlusM, lstItems, dictOfP, keyP, keysP, val_left, val_mixed, val_draws, put_draws, mLc, mLcM, mLc2, mFor, mSeqI, mRng1, mRng2, mZip, mEnum, mSl, mNoPart, mPart, mSeq, mAsg, mAsg2, mCB, mCons, mNil, mVar, mC, mOp, mUn, pU, mTup, mLst, mRet, mRetN, mLstM, getl, setl, mName, mCall, mCallK, mIf, mIfS, mTest, mAnd, mOr, mNot, mYes, mAndV, mOrV, mNotV, mNext, mNever, mBreak, mCont, mDrop, mChain, mPar, mGTup, mGCons, mGNil, pGcd, pI, pI0, pIx, pTimes, pPlus, pEq, pNe, pLen, pSum, pMaxS, pAll, pAny, pTupOf, pLstOf, pIn, pIsB, pIsi, items_tup, items_lst, items_kl, items_mr, items_tab, items_lot, items_fr, decide_true, decide_false, eqP_int, eqP_bl, eqP_str, eqP_tup2, kit_tt, kit_ii, kit_ib, tyP, mEnd, wipeP, List.map_cons, List.map_nil, List.getElem?_cons_zero, List.getElem?_cons_succ, List.set_cons_zero, List.set_cons_succ, atI_zero, atI_one, if_true, if_false, ite_true, ite_false, Bool.false_eq_true, List.length_cons, List.length_nil, Bool.not_true, Bool.not_false]
  refine ⟨by decide, ?_⟩
  subst hR
  refine stm_of fun R1 hR1 => ?_
  simp only [mBits, mEnumC, pSortX, mDNewT, mZipM, mDc, mLenSetL, mDGetT, mDGet2T, mDInT, mDPutT, mLockX, mLockEX, mKeysX, pLstX, pLenX, pMaxT, pSortT, str_to, str_ot, mPar3, mLockV, mLockE, mItemsC, mKeysC, mDGet2, pIsN, isNonP, pRepLM, mTruD, dkOfP, pPopAt, pIndex, mLstRgM, mTruth, pReprA, pLenD, pLstD, mDNew, pRepL, mLenSetN, mDIn, mSortSet, mSortSetL, mRevT, mForC, mSeqC, mLcC, pAbs, pMax2, pMin2, pInt1, mDGet, mDPut, mBM, mBM0, pPop, pAppend, pExtend, pSetL, mSub, mDisp, mPs, mPs0, mRevL, mRevLM, pLstOfM, mTupRg, mRg1, mRg2, pPlusM, lstItems, dictOfP, keyP, keysP, val_left, val_mixed, val_draws, put_draws, mLc, mLcM, mLc2, mFor, mSeqI, mRng1, mRng2, mZip, mEnum, mSl, mNoPart, mPart, mAsg, mAsg2, mCB, mCons, mNil, mVar, mC, mOp, mUn, pU, mTup, mLst, mRet, mRetN, mLstM, getl, setl, mName, mCall, mCallK, mIf, mIfS, mTest, mAnd, mOr, mNot, mYes, mAndV, mOrV, mNotV, mNext, mNever, mBreak, mCont, mDrop, mChain, mPar, mGTup, mGCons, mGNil, pGcd, pI, pI0, pIx, pTimes, pPlus, pEq, pNe, pLen, pSum, pMaxS, pAll, pAny, pTupOf, pLstOf, pIn, pIsB, pIsi, items_tup, items_lst, items_kl, items_mr, items_tab, items_lot, items_fr, decide_true, decide_false, eqP_int, eqP_bl, eqP_str, eqP_tup2, kit_tt, kit_ii, kit_ib, tyP, mEnd, wipeP, List.map_cons, List.map_nil, List.getElem?_cons_zero, List.getElem?_cons_succ, List.set_cons_zero, List.set_cons_succ, atI_zero, atI_one, if_true, if_false, ite_true, ite_false, Bool.false_eq_true, List.length_cons, List.length_nil, Bool.not_true, Bool.not_false]
  rw [show (((m : Nat) : Int) + 1).toNat = m + 1 by omega, rangeP_eq]
  refine ⟨by omega, for_inv (enc := fun (i : Nat) => PV.int i) (fun pre ρ μ' => (∃ y3 y4 : Option PV, ρ = [some (.int m), some (.int ((k + 2 : Nat) : Int)), some (.mr μ.length), y3, y4]) ∧ μ' = μ ++ [.lst ((pre.flatMap fun f => (ptd (m - f) (k + 1)).map fun r => f :: r).map lotP)]) (done := []) ⟨⟨_, _, rfl⟩, rfl⟩ (fun pre f post ρ μ' e hI N hN => ?_) fun ρ μ' hI => ?_⟩
  · obtain ⟨⟨y3, y4, rfl⟩, rfl⟩ := hI
    simp only [mBits, mEnumC, pSortX, mDNewT, mZipM, mDc, mLenSetL, mDGetT, mDGet2T, mDInT, mDPutT, mLockX, mLockEX, mKeysX, pLstX, pLenX, pMaxT, pSortT, str_to, str_ot, mPar3, mLockV, mLockE, mItemsC, mKeysC, mDGet2, pIsN, isNonP, pRepLM, mTruD, dkOfP, pPopAt, pIndex, mLstRgM, mTruth, pReprA, pLenD, pLstD, mDNew, pRepL, mLenSetN, mDIn, mSortSet, mSortSetL, mRevT, mForC, mSeqC, mLcC, pAbs, pMax2, pMin2, pInt1, mDGet, mDPut, mBM, mBM0, pPop, pAppend, pExtend, pSetL, mSub, mDisp, mPs, mPs0, mRevL, mRevLM, pLstOfM, mTupRg, mRg1, mRg2, pPlusM, lstItems, dictOfP, keyP, keysP, val_left, val_mixed, val_draws, put_draws, mLc, mLcM, mLc2, mFor, mSeqI, mRng1, mRng2, mZip, mEnum, mSl, mNoPart, mPart, mAsg, mAsg2, mCB, mCons, mNil, mVar, mC, mOp, mUn, pU, mTup, mLst, mRet, mRetN, mLstM, getl, setl, mName, mCall, mCallK, mIf, mIfS, mTest, mAnd, mOr, mNot, mYes, mAndV, mOrV, mNotV, mNext, mNever, mBreak, mCont, mDrop, mChain, mPar, mGTup, mGCons, mGNil, pGcd, pI, pI0, pIx, pTimes, pPlus, pEq, pNe, pLen, pSum, pMaxS, pAll, pAny, pTupOf, pLstOf, pIn, pIsB, pIsi, items_tup, items_lst, items_kl, items_mr, items_tab, items_lot, items_fr, decide_true, decide_false, eqP_int, eqP_bl, eqP_str, eqP_tup2, kit_tt, kit_ii, kit_ib, tyP, mEnd, wipeP, List.map_cons, List.map_nil, List.getElem?_cons_zero, List.getElem?_cons_succ, List.set_cons_zero, List.set_cons_succ, atI_zero, atI_one, if_true, if_false, ite_true, ite_false, Bool.false_eq_true, List.length_cons, List.length_nil, Bool.not_true, Bool.not_false, S__law_parted_n]
    rw [show ((m : Nat) : Int) - (f : Nat) = ((m - f : Nat) : Int) by have := List.mem_range.mp (show f ∈ List.range (m + 1) by rw [show List.range (m + 1) = pre ++ f :: post from e]; simp); omega, show ((k + 2 : Nat) : Int) - 1 = ((k + 1 : Nat) : Int) by omega]
    have hfm := List.mem_range.mp (show f ∈ List.range (m + 1) by rw [show List.range (m + 1) = pre ++ f :: post from e]; simp)
    have hlen := ptd_few (n := k + 1) (m := m - f) (by omega) (by omega)
    have hpl : pre.length ≤ 9 := by
      have := congrArg List.length e
      simp at this
      omega
    have hpre : (pre.flatMap fun f => (ptd (m - f) (k + 1)).map fun r => f :: r).length ≤ 6561 * pre.length := flat_len _ _ _ fun a _ => by
      rw [List.length_map]
      exact ptd_few (by omega) (by omega)
    refine ⟨by decide, by omega, trivial, m - f, k + 1, rfl, by omega, by omega, by omega, by omega, by rw [List.length_map]; unfold lim; omega, lc_map (enc := lotP) (out := fun r => lotP (f :: r)) (fun r hr kk hk => ?_) ?_⟩
    · simp only [mBits, mEnumC, pSortX, mDNewT, mZipM, mDc, mLenSetL, mDGetT, mDGet2T, mDInT, mDPutT, mLockX, mLockEX, mKeysX, pLstX, pLenX, pMaxT, pSortT, str_to, str_ot, mPar3, mLockV, mLockE, mItemsC, mKeysC, mDGet2, pIsN, isNonP, pRepLM, mTruD, dkOfP, pPopAt, pIndex, mLstRgM, mTruth, pReprA, pLenD, pLstD, mDNew, pRepL, mLenSetN, mDIn, mSortSet, mSortSetL, mRevT, mForC, mSeqC, mLcC, pAbs, pMax2, pMin2, pInt1, mDGet, mDPut, mBM, mBM0, pPop, pAppend, pExtend, pSetL, mSub, mDisp, mPs, mPs0, mRevL, mRevLM, pLstOfM, mTupRg, mRg1, mRg2, pPlusM, lstItems, dictOfP, keyP, keysP, val_left, val_mixed, val_draws, put_draws, mLc, mLcM, mLc2, mFor, mSeqI, mRng1, mRng2, mZip, mEnum, mSl, mNoPart, mPart, mSeq, mAsg, mAsg2, mCB, mCons, mNil, mVar, mC, mOp, mUn, pU, mTup, mLst, mRet, mRetN, mLstM, getl, setl, mName, mCall, mCallK, mIf, mIfS, mTest, mAnd, mOr, mNot, mYes, mAndV, mOrV, mNotV, mNext, mNever, mBreak, mCont, mDrop, mChain, mPar, mGTup, mGCons, mGNil, pGcd, pI, pI0, pIx, pTimes, pPlus, pEq, pNe, pLen, pSum, pMaxS, pAll, pAny, pTupOf, pLstOf, pIn, pIsB, pIsi, items_tup, items_lst, items_kl, items_mr, items_tab, items_lot, items_fr, decide_true, decide_false, eqP_int, eqP_bl, eqP_str, eqP_tup2, kit_tt, kit_ii, kit_ib, tyP, mEnd, wipeP, List.map_cons, List.map_nil, List.getElem?_cons_zero, List.getElem?_cons_succ, List.set_cons_zero, List.set_cons_succ, atI_zero, atI_one, if_true, if_false, ite_true, ite_false, Bool.false_eq_true, List.length_cons, List.length_nil, Bool.not_true, Bool.not_false, lotP]
      have hr2 := ptd_ok (k + 1) (m - f) r hr
      refine ⟨by decide, by rw [List.length_map]; unfold lim; omega, ?_⟩
      exact hk
    rw [List.nil_append, getl]
    simp only
    rw [setl]
    refine ⟨by rw [List.length_map, List.length_map]; unfold lim; omega, hN _ _ ⟨⟨_, _, rfl⟩, ?_⟩⟩
    rw [List.flatMap_append, List.map_append]
    simp only [List.flatMap_cons, List.flatMap_nil, List.append_nil, List.map_map]
    rfl
  · obtain ⟨⟨y3, y4, rfl⟩, rfl⟩ := hI
    rw [List.nil_append]
    show R1 _ _
    subst hR1
    simp only [mBits, mEnumC, pSortX, mDNewT, mZipM, mDc, mLenSetL, mDGetT, mDGet2T, mDInT, mDPutT, mLockX, mLockEX, mKeysX, pLstX, pLenX, pMaxT, pSortT, str_to, str_ot, mPar3, mLockV, mLockE, mItemsC, mKeysC, mDGet2, pIsN, isNonP, pRepLM, mTruD, dkOfP, pPopAt, pIndex, mLstRgM, mTruth, pReprA, pLenD, pLstD, mDNew, pRepL, mLenSetN, mDIn, mSortSet, mSortSetL, mRevT, mForC, mSeqC, mLcC, pAbs, pMax2, pMin2, pInt1, mDGet, mDPut, mBM, mBM0, pPop, pAppend, pExtend, pSetL, mSub, mDisp, mPs, mPs0, mRevL, mRevLM, pLstOfM, mTupRg, mRg1, mRg2, pPlusM, lstItems, dictOfP, keyP, keysP, val_left, val_mixed, val_draws, put_draws, mLc, mLcM, mLc2, mFor, mSeqI, mRng1, mRng2, mZip, mEnum, mSl, mNoPart, mPart, mSeq, mAsg, mAsg2, mCB, mCons, mNil, mVar, mC, mOp, mUn, pU, mTup, mLst, mRet, mRetN, mLstM, getl, setl, mName, mCall, mCallK, mIf, mIfS, mTest, mAnd, mOr, mNot, mYes, mAndV, mOrV, mNotV, mNext, mNever, mBreak, mCont, mDrop, mChain, mPar, mGTup, mGCons, mGNil, pGcd, pI, pI0, pIx, pTimes, pPlus, pEq, pNe, pLen, pSum, pMaxS, pAll, pAny, pTupOf, pLstOf, pIn, pIsB, pIsi, items_tup, items_lst, items_kl, items_mr, items_tab, items_lot, items_fr, decide_true, decide_false, eqP_int, eqP_bl, eqP_str, eqP_tup2, kit_tt, kit_ii, kit_ib, tyP, mEnd, wipeP, List.map_cons, List.map_nil, List.getElem?_cons_zero, List.getElem?_cons_succ, List.set_cons_zero, List.set_cons_succ, atI_zero, atI_one, if_true, if_false, ite_true, ite_false, Bool.false_eq_true, List.length_cons, List.length_nil, Bool.not_true, Bool.not_false]
    exact fin_froz (noRefs_lots _) hQ
theorem ok__law_parted (B : Blt mg) (h__law_parted : Own K mg "_law_parted" s__law_parted) : Ok P w K mg base 6 "_law_parted" s__law_parted ["_law_parts", "_law_n"] S__law_parted := by
  have key : ∀ dd, Ok P w K mg base (1 + dd) "_law_parted" s__law_parted ["_law_parts", "_law_n"] (S__law_parted_n dd) := by
    intro dd
    induction dd with
    | zero =>
      obtain ⟨f_s, fd_s, F_s, g_s⟩ := h__law_parted
      exact ⟨f_s, fd_s, F_s, g_s, F_s.binds (fun _ _ _ _ _ _ us hl => match us, hl with | [_, _], _ => rfl), ⟨fun xs μ Q h => absurd h.1 (Nat.lt_irrefl 0), fun _ _ _ _ _ _ _ _ _ _ _ _ _ _ _ _ _ _ q => absurd q.1 (Nat.lt_irrefl 0)⟩⟩
    | succ dd ih => exact ok__law_parted_step dd B h__law_parted ih
  exact key 5
abbrev N_check_table : List Str := ["table"]
theorem sc_check_table : FnScope N_check_table ["table"] (defScope s_check_table) := ⟨rfl, rfl, rfl, by decide +kernel, rfl, by decide +kernel, by decide +kernel⟩
theorem ok_check_table (B : Blt mg) (h_check_table : Own K mg "check_table" s_check_table) (k_is_table : Ok P w K mg base 5 "is_table" s_is_table ["thing"] S_is_table) : Ok P w K mg base 6 "check_table" s_check_table ["table"] S_check_table := by
  obtain ⟨f_s, fd_s, F_s, g_s⟩ := h_check_table
  obtain ⟨f_is_table, fd_is_table, F_is_table, g_is_table, b_is_table, G_is_table⟩ := k_is_table
  refine ⟨f_s, fd_s, F_s, g_s, F_s.binds (fun _ _ _ _ _ _ us hl => match us, hl with | [_], _ => rfl), FnG.of F_s sc_check_table (fun xs μ Q h => by first | exact h.1 | exact h.2.1 | (obtain ⟨⟩ := h)) fun cdv A outer s H hr hgd => ⟨_, _, (pss_one (ps_if (pt_not (pt_val (pe_callG (G_is_table.mono (by decide)) hr hgd (by rfl) g_is_table F_is_table.kp b_is_table (pa_cons (pv 0) pa_nil))))
 (pss_one ps_never)
 pss_nil)), (by (try dsimp only [cxOf]); exact inferInstance), ?_⟩⟩
  intro xs μ Q hS
  obtain ⟨_, qs, rfl, hT, hQ⟩ := hS
  rw [show startP N_check_table [tabP qs] = [some (tabP qs)] from rfl]
  simp only [mBits, mEnumC, pSortX, mDNewT, mZipM, mDc, mLenSetL, mDGetT, mDGet2T, mDInT, mDPutT, mLockX, mLockEX, mKeysX, pLstX, pLenX, pMaxT, pSortT, str_to, str_ot, mPar3, mLockV, mLockE, mItemsC, mKeysC, mDGet2, pIsN, isNonP, pRepLM, mTruD, dkOfP, pPopAt, pIndex, mLstRgM, mTruth, pReprA, pLenD, pLstD, mDNew, pRepL, mLenSetN, mDIn, mSortSet, mSortSetL, mRevT, mForC, mSeqC, mLcC, pAbs, pMax2, pMin2, pInt1, mDGet, mDPut, mBM, mBM0, pPop, pAppend, pExtend, pSetL, mSub, mDisp, mPs, mPs0, mRevL, mRevLM, pLstOfM, mTupRg, mRg1, mRg2, pPlusM, lstItems, dictOfP, keyP, keysP, val_left, val_mixed, val_draws, put_draws, mLc, mLcM, mLc2, mFor, mSeqI, mRng1, mRng2, mZip, mEnum, mSl, mNoPart, mPart, mSeq, mAsg, mAsg2, mCB, mCons, mNil, mVar, mC, mOp, mUn, pU, mTup, mLst, mRet, mRetN, mLstM, getl, setl, mName, mCall, mCallK, mIf, mIfS, mTest, mAnd, mOr, mNot, mYes, mAndV, mOrV, mNotV, mNext, mNever, mBreak, mCont, mDrop, mChain, mPar, mGTup, mGCons, mGNil, pGcd, pI, pI0, pIx, pTimes, pPlus, pEq, pNe, pLen, pSum, pMaxS, pAll, pAny, pTupOf, pLstOf, pIn, pIsB, pIsi, items_tup, items_lst, items_kl, items_mr, items_tab, items_lot, items_fr, decide_true, decide_false, eqP_int, eqP_bl, eqP_str, eqP_tup2, kit_tt, kit_ii, kit_ib, tyP, mEnd, wipeP, List.map_cons, List.map_nil, List.getElem?_cons_zero, List.getElem?_cons_succ, List.set_cons_zero, List.set_cons_succ, atI_zero, atI_one, if_true, if_false, ite_true, ite_false, Bool.false_eq_true, List.length_cons, List.length_nil, Bool.not_true, Bool.not_false, S_is_table]
  exact ⟨trivial, qs, rfl, hT, fin_keep hQ⟩
abbrev N__law_beats_all : List Str := ["_law_table_here", "_law_t", "_law_told", "_law_least", "_law_most", "_law_parts", "_law_other", "_law_far", "_law_part"]
theorem sc__law_beats_all : FnScope N__law_beats_all ["_law_table_here", "_law_t", "_law_told"] (defScope s__law_beats_all) := ⟨rfl, rfl, rfl, by decide +kernel, rfl, by decide +kernel, by decide +kernel⟩
theorem ok__law_beats_all (B : Blt mg) (h__law_beats_all : Own K mg "_law_beats_all" s__law_beats_all) (k__law_greatest : Ok P w K mg base 4 "_law_greatest" s__law_greatest ["_law_one", "_law_other"] S__law_greatest) (k__law_distance : Ok P w K mg base 4 "_law_distance" s__law_distance ["_law_one", "_law_other"] S__law_distance) (k__law_parted : Ok P w K mg base 6 "_law_parted" s__law_parted ["_law_parts", "_law_n"] S__law_parted) (k__law_fraction : Ok P w K mg base 2 "_law_fraction" s__law_fraction ["_law_top", "_law_bottom"] S__law_fraction) (k__law_is_less : Ok P w K mg base 1 "_law_is_less" s__law_is_less ["_law_one", "_law_other"] S__law_is_less) (k__law_is_nearest : Ok P w K mg base 4 "_law_is_nearest" s__law_is_nearest ["_law_table_here", "_law_t", "_law_other"] S__law_is_nearest) : Ok P w K mg base 7 "_law_beats_all" s__law_beats_all ["_law_table_here", "_law_t", "_law_told"] S__law_beats_all := by
  obtain ⟨f_s, fd_s, F_s, g_s⟩ := h__law_beats_all
  obtain ⟨f__law_greatest, fd__law_greatest, F__law_greatest, g__law_greatest, b__law_greatest, G__law_greatest⟩ := k__law_greatest
  obtain ⟨f__law_distance, fd__law_distance, F__law_distance, g__law_distance, b__law_distance, G__law_distance⟩ := k__law_distance
  obtain ⟨f__law_parted, fd__law_parted, F__law_parted, g__law_parted, b__law_parted, G__law_parted⟩ := k__law_parted
  obtain ⟨f__law_fraction, fd__law_fraction, F__law_fraction, g__law_fraction, b__law_fraction, G__law_fraction⟩ := k__law_fraction
  obtain ⟨f__law_is_less, fd__law_is_less, F__law_is_less, g__law_is_less, b__law_is_less, G__law_is_less⟩ := k__law_is_less
  obtain ⟨f__law_is_nearest, fd__law_is_nearest, F__law_is_nearest, g__law_is_nearest, b__law_is_nearest, G__law_is_nearest⟩ := k__law_is_nearest
  refine ⟨f_s, fd_s, F_s, g_s, F_s.binds (fun _ _ _ _ _ _ us hl => match us, hl with | [_, _, _], _ => rfl), FnG.of F_s sc__law_beats_all (fun xs μ Q h => by first | exact h.1 | exact h.2.1 | (obtain ⟨⟩ := h)) fun cdv A outer s H hr hgd => ⟨_, _, (pss_cons (ps_par (i := 3) (j := 4) (by rfl) sc__law_beats_all.nd rfl rfl (by decide) rfl rfl (pa_cons (pe_callG (G__law_distance.mono (by decide)) hr hgd (by rfl) g__law_distance F__law_distance.kp b__law_distance (pa_cons (pv 0) (pa_cons (pv 2) pa_nil))) (pa_cons (pe_callG (G__law_greatest.mono (by decide)) hr hgd (by rfl) g__law_greatest F__law_greatest.kp b__law_greatest (pa_cons (pv 0) (pa_cons (pv 2) pa_nil))) pa_nil)) (by rfl))
 (pss_cons (ps_for PassesOwn.never rfl (pi_seq (pe_callG (G__law_parted.mono (by decide)) hr hgd (by rfl) g__law_parted F__law_parted.kp b__law_parted (pa_cons (pe_op op_shlW pe_int (pv 1)) (pa_cons (pe_callB cb_len (by rfl) (B "len" (by decide)) (by decide +kernel) (pa_cons (pv 0) pa_nil)) pa_nil)))) (pg_name (i := 5) sc__law_beats_all.nd rfl (Or.inl rfl))
 (pss_cons (ps_set (i := 6) sc__law_beats_all.nd rfl (Or.inl rfl) (pe_callTy cb_tup (by rfl) (B "tuple" (by decide)) (by decide +kernel) (pa_cons (pe_lc (own := [("_law_part", 8)]) (by rfl) sc__law_beats_all.nd (pi_seq (pv 5)) (blkOk_by (own := [("_law_part", 8)]) (N := N__law_beats_all) (sc := defScope s__law_beats_all) (by decide +kernel)) (fun _ _ _ _ _ => (pg_name (i := 8) sc__law_beats_all.nd rfl (Or.inl rfl))) (fun _ _ _ _ _ => pts_nil) (fun _ _ _ _ _ => (pek_call K rfl (G__law_fraction.mono (by decide)) hr hgd (by rfl) g__law_fraction F__law_fraction.kp b__law_fraction (pa_cons (pv 8) (pa_cons (pe_op op_shlW pe_int (pv 1)) pa_nil))))) pa_nil)))
 (pss_cons (ps_set (i := 7) sc__law_beats_all.nd rfl (Or.inl rfl) (pe_callG (G__law_distance.mono (by decide)) hr hgd (by rfl) g__law_distance F__law_distance.kp b__law_distance (pa_cons (pv 0) (pa_cons (pv 6) pa_nil))))
 (pss_cons (ps_if (PW.pt (pw_or (pt_val (pe_callG (G__law_is_less.mono (by decide)) hr hgd (by rfl) g__law_is_less F__law_is_less.kp b__law_is_less (pa_cons (pv 7) (pa_cons (pv 3) pa_nil)))) (pw_or1 (pt_val (pe_callG (G__law_is_less.mono (by decide)) hr hgd (by rfl) g__law_is_less F__law_is_less.kp b__law_is_less (pa_cons (pe_callG (G__law_greatest.mono (by decide)) hr hgd (by rfl) g__law_greatest F__law_greatest.kp b__law_greatest (pa_cons (pv 0) (pa_cons (pv 6) pa_nil))) (pa_cons (pv 4) pa_nil)))))))
 (pss_one (ps_ret pe_bl))
 pss_nil)
 (pss_one (ps_if (pt_cmpR (op_neX hr.units) (pe_cmpR (op_eqX hr.units) (pv 7) (pv 3) (nomark _)) (pe_callG (G__law_is_nearest.mono (by decide)) hr hgd (by rfl) g__law_is_nearest F__law_is_nearest.kp b__law_is_nearest (pa_cons (pv 0) (pa_cons (pv 1) (pa_cons (pv 6) pa_nil)))) (nomark _))
 (pss_one (ps_ret pe_bl))
 pss_nil))))))
 (pss_one (ps_ret pe_bl)))), (by (try dsimp only [cxOf]); exact inferInstance), ?_⟩⟩
  intro xs μ Q hS
  obtain ⟨_, qs, ps, t, rfl, hT, h4, ht, hN, hP, hQ⟩ := hS
  rw [show startP N__law_beats_all [tabP qs, .int t, tabP ps] = [some (tabP qs), some (.int t), some (tabP ps), none, none, none, none, none, none] from rfl]
  have h1q := List.length_pos_iff.mpr hT.ne
  refine stm_of fun R hR => ?_
  simp only [mBits, mEnumC, pSortX, mDNewT, mZipM, mDc, mLenSetL, mDGetT, mDGet2T, mDInT, mDPutT, mLockX, mLockEX, mKeysX, pLstX, pLenX, pMaxT, pSortT, str_to, str_ot, mPar3, mLockV, mLockE, mItemsC, mKeysC, mDGet2, pIsN, isNonP, pRepLM, mTruD, dkOfP, pPopAt, pIndex, mLstRgM, mTruth, pReprA, pLenD, pLstD, mDNew, pRepL, mLenSetN, mDIn, mSortSet, mSortSetL, mRevT, mForC, mSeqC, mLcC, pAbs, pMax2, pMin2, pInt1, mDGet, mDPut, mBM, mBM0, pPop, pAppend, pExtend, pSetL, mSub, mDisp, mPs, mPs0, mRevL, mRevLM, pLstOfM, mTupRg, mRg1, mRg2, pPlusM, lstItems, dictOfP, keyP, keysP, val_left, val_mixed, val_draws, put_draws, mLc, mLcM, mLc2, mFor, mSeqI, mRng1, mRng2, mZip, mEnum, mSl, mNoPart, mPart, mSeq, mAsg, mAsg2, mCB, mCons, mNil, mVar, mC, mOp, mUn, pU, mTup, mLst, mRet, mRetN, mLstM, getl, setl, mName, mCall, mCallK, mIf, mIfS, mTest, mAnd, mOr, mNot, mYes, mAndV, mOrV, mNotV, mNext, mNever, mBreak, mCont, mDrop, mChain, mPar, mGTup, mGCons, mGNil, pGcd, pI, pI0, pIx, pTimes, pPlus, pEq, pNe, pLen, pSum, pMaxS, pAll, pAny, pTupOf, pLstOf, pIn, pIsB, pIsi, items_tup, items_lst, items_kl, items_mr, items_tab, items_lot, items_fr, decide_true, decide_false, eqP_int, eqP_bl, eqP_str, eqP_tup2, kit_tt, kit_ii, kit_ib, tyP, mEnd, wipeP, List.map_cons, List.map_nil, List.getElem?_cons_zero, List.getElem?_cons_succ, List.set_cons_zero, List.set_cons_succ, atI_zero, atI_one, if_true, if_false, ite_true, ite_false, Bool.false_eq_true, List.length_cons, List.length_nil, Bool.not_true, Bool.not_false, S__law_distance, S__law_greatest]
  refine ⟨trivial, 44, 44, qs, ps, rfl, hT, hP, by decide, hN.len, trivial, 44, 44, qs, ps, rfl, hT, hP, by decide, hN.len, ?_⟩
  subst hR
  refine stm_of fun R1 hR1 => ?_
  simp only [mBits, mEnumC, pSortX, mDNewT, mZipM, mDc, mLenSetL, mDGetT, mDGet2T, mDInT, mDPutT, mLockX, mLockEX, mKeysX, pLstX, pLenX, pMaxT, pSortT, str_to, str_ot, mPar3, mLockV, mLockE, mItemsC, mKeysC, mDGet2, pIsN, isNonP, pRepLM, mTruD, dkOfP, pPopAt, pIndex, mLstRgM, mTruth, pReprA, pLenD, pLstD, mDNew, pRepL, mLenSetN, mDIn, mSortSet, mSortSetL, mRevT, mForC, mSeqC, mLcC, pAbs, pMax2, pMin2, pInt1, mDGet, mDPut, mBM, mBM0, pPop, pAppend, pExtend, pSetL, mSub, mDisp, mPs, mPs0, mRevL, mRevLM, pLstOfM, mTupRg, mRg1, mRg2, pPlusM, lstItems, dictOfP, keyP, keysP, val_left, val_mixed, val_draws, put_draws, mLc, mLcM, mLc2, mFor, mSeqI, mRng1, mRng2, mZip, mEnum, mSl, mNoPart, mPart, mAsg, mAsg2, mCB, mCons, mNil, mVar, mC, mOp, mUn, pU, mTup, mLst, mRet, mRetN, mLstM, getl, setl, mName, mCall, mCallK, mIf, mIfS, mTest, mAnd, mOr, mNot, mYes, mAndV, mOrV, mNotV, mNext, mNever, mBreak, mCont, mDrop, mChain, mPar, mGTup, mGCons, mGNil, pGcd, pI, pI0, pIx, pTimes, pPlus, pEq, pNe, pLen, pSum, pMaxS, pAll, pAny, pTupOf, pLstOf, pIn, pIsB, pIsi, items_tup, items_lst, items_kl, items_mr, items_tab, items_lot, items_fr, decide_true, decide_false, eqP_int, eqP_bl, eqP_str, eqP_tup2, kit_tt, kit_ii, kit_ib, tyP, mEnd, wipeP, List.map_cons, List.map_nil, List.getElem?_cons_zero, List.getElem?_cons_succ, List.set_cons_zero, List.set_cons_succ, atI_zero, atI_one, if_true, if_false, ite_true, ite_false, Bool.false_eq_true, List.length_cons, List.length_nil, Bool.not_true, Bool.not_false, S__law_parted, tabP, List.length_map]
  have ep : (1 : Int) * 2 ^ ((t : Int)).toNat = ((2 ^ t : Nat) : Int) := by rw [Int.one_mul, Int.toNat_natCast, Int.natCast_pow]; rfl
  have hpt : 2 ^ t ≤ 2 ^ 3 := Nat.pow_le_pow_right (by decide) ht
  have hpt0 := Nat.two_pow_pos t
  rw [ep]
  refine ⟨shl_ok (n := 1) (by decide) (by omega), by decide, rfl, 2 ^ t, qs.length, rfl, by omega, by omega, h4, by omega, ?_⟩
  simp only
  refine for_inv (enc := lotP) (fun pre ρ μ' => (∃ y5 y6 y7 y8 : Option PV, ρ = [some (.tup (qs.map frP)), some (.int (t : Nat)), some (.tup (ps.map frP)), some (frP (d2 qs ps / 2)), some (frP (gmx (dls qs ps))), y5, y6, y7, y8]) ∧ μ' = μ) (done := []) ⟨⟨_, _, _, _, rfl⟩, rfl⟩ (fun pre r post ρ μ' e hI N hN2 => ?_) fun ρ μ' hI => ?_
  · obtain ⟨⟨y5, y6, y7, y8, rfl⟩, rfl⟩ := hI
    have hr : r ∈ ptd (2 ^ t) qs.length := by rw [show ptd (2 ^ t) qs.length = pre ++ r :: post from e]; simp
    obtain ⟨r1, r2⟩ := ptd_ok _ _ r hr
    have hO := row_oth r1 r2
    have hOT := row_tab r1 r2 hT.ne hT.len (show t ≤ 40 by omega)
    have hle := near_le hN hO
    have hgm := near_gmx hN hO
    simp only [mBits, mEnumC, pSortX, mDNewT, mZipM, mDc, mLenSetL, mDGetT, mDGet2T, mDInT, mDPutT, mLockX, mLockEX, mKeysX, pLstX, pLenX, pMaxT, pSortT, str_to, str_ot, mPar3, mLockV, mLockE, mItemsC, mKeysC, mDGet2, pIsN, isNonP, pRepLM, mTruD, dkOfP, pPopAt, pIndex, mLstRgM, mTruth, pReprA, pLenD, pLstD, mDNew, pRepL, mLenSetN, mDIn, mSortSet, mSortSetL, mRevT, mForC, mSeqC, mLcC, pAbs, pMax2, pMin2, pInt1, mDGet, mDPut, mBM, mBM0, pPop, pAppend, pExtend, pSetL, mSub, mDisp, mPs, mPs0, mRevL, mRevLM, pLstOfM, mTupRg, mRg1, mRg2, pPlusM, lstItems, dictOfP, keyP, keysP, val_left, val_mixed, val_draws, put_draws, mLc, mLcM, mLc2, mFor, mSeqI, mRng1, mRng2, mZip, mEnum, mSl, mNoPart, mPart, mAsg, mAsg2, mCB, mCons, mNil, mVar, mC, mOp, mUn, pU, mTup, mLst, mRet, mRetN, mLstM, getl, setl, mName, mCall, mCallK, mIf, mIfS, mTest, mAnd, mOr, mNot, mYes, mAndV, mOrV, mNotV, mNext, mNever, mBreak, mCont, mDrop, mChain, mPar, mGTup, mGCons, mGNil, pGcd, pI, pI0, pIx, pTimes, pPlus, pEq, pNe, pLen, pSum, pMaxS, pAll, pAny, pTupOf, pLstOf, pIn, pIsB, pIsi, items_tup, items_lst, items_kl, items_mr, items_tab, items_lot, items_fr, decide_true, decide_false, eqP_int, eqP_bl, eqP_str, eqP_tup2, kit_tt, kit_ii, kit_ib, tyP, mEnd, wipeP, List.map_cons, List.map_nil, List.getElem?_cons_zero, List.getElem?_cons_succ, List.set_cons_zero, List.set_cons_succ, atI_zero, atI_one, if_true, if_false, ite_true, ite_false, Bool.false_eq_true, List.length_cons, List.length_nil, Bool.not_true, Bool.not_false, lotP]
    refine stm_of fun R2 hR2 => ?_
    simp only [mBits, mEnumC, pSortX, mDNewT, mZipM, mDc, mLenSetL, mDGetT, mDGet2T, mDInT, mDPutT, mLockX, mLockEX, mKeysX, pLstX, pLenX, pMaxT, pSortT, str_to, str_ot, mPar3, mLockV, mLockE, mItemsC, mKeysC, mDGet2, pIsN, isNonP, pRepLM, mTruD, dkOfP, pPopAt, pIndex, mLstRgM, mTruth, pReprA, pLenD, pLstD, mDNew, pRepL, mLenSetN, mDIn, mSortSet, mSortSetL, mRevT, mForC, mSeqC, mLcC, pAbs, pMax2, pMin2, pInt1, mDGet, mDPut, mBM, mBM0, pPop, pAppend, pExtend, pSetL, mSub, mDisp, mPs, mPs0, mRevL, mRevLM, pLstOfM, mTupRg, mRg1, mRg2, pPlusM, lstItems, dictOfP, keyP, keysP, val_left, val_mixed, val_draws, put_draws, mLc, mLcM, mLc2, mFor, mSeqI, mRng1, mRng2, mZip, mEnum, mSl, mNoPart, mPart, mSeq, mAsg, mAsg2, mCB, mCons, mNil, mVar, mC, mOp, mUn, pU, mTup, mLst, mRet, mRetN, mLstM, getl, setl, mName, mCall, mCallK, mIf, mIfS, mTest, mAnd, mOr, mNot, mYes, mAndV, mOrV, mNotV, mNext, mNever, mBreak, mCont, mDrop, mChain, mPar, mGTup, mGCons, mGNil, pGcd, pI, pI0, pIx, pTimes, pPlus, pEq, pNe, pLen, pSum, pMaxS, pAll, pAny, pTupOf, pLstOf, pIn, pIsB, pIsi, items_tup, items_lst, items_kl, items_mr, items_tab, items_lot, items_fr, decide_true, decide_false, eqP_int, eqP_bl, eqP_str, eqP_tup2, kit_tt, kit_ii, kit_ib, tyP, mEnd, wipeP, List.map_cons, List.map_nil, List.getElem?_cons_zero, List.getElem?_cons_succ, List.set_cons_zero, List.set_cons_succ, atI_zero, atI_one, if_true, if_false, ite_true, ite_false, Bool.false_eq_true, List.length_cons, List.length_nil, Bool.not_true, Bool.not_false, S__law_fraction]
    refine ⟨by decide, by rw [List.length_map]; unfold lim; omega, lc_map (enc := fun (p : Nat) => PV.int p) (out := fun (p : Nat) => frP (Rat.divInt (p : Int) ((2 ^ t : Nat) : Int))) (fun p hp kk hk => ?_) ?_⟩
    · simp only [mBits, mEnumC, pSortX, mDNewT, mZipM, mDc, mLenSetL, mDGetT, mDGet2T, mDInT, mDPutT, mLockX, mLockEX, mKeysX, pLstX, pLenX, pMaxT, pSortT, str_to, str_ot, mPar3, mLockV, mLockE, mItemsC, mKeysC, mDGet2, pIsN, isNonP, pRepLM, mTruD, dkOfP, pPopAt, pIndex, mLstRgM, mTruth, pReprA, pLenD, pLstD, mDNew, pRepL, mLenSetN, mDIn, mSortSet, mSortSetL, mRevT, mForC, mSeqC, mLcC, pAbs, pMax2, pMin2, pInt1, mDGet, mDPut, mBM, mBM0, pPop, pAppend, pExtend, pSetL, mSub, mDisp, mPs, mPs0, mRevL, mRevLM, pLstOfM, mTupRg, mRg1, mRg2, pPlusM, lstItems, dictOfP, keyP, keysP, val_left, val_mixed, val_draws, put_draws, mLc, mLcM, mLc2, mFor, mSeqI, mRng1, mRng2, mZip, mEnum, mSl, mNoPart, mPart, mSeq, mAsg, mAsg2, mCB, mCons, mNil, mVar, mC, mOp, mUn, pU, mTup, mLst, mRet, mRetN, mLstM, getl, setl, mName, mCall, mCallK, mIf, mIfS, mTest, mAnd, mOr, mNot, mYes, mAndV, mOrV, mNotV, mNext, mNever, mBreak, mCont, mDrop, mChain, mPar, mGTup, mGCons, mGNil, pGcd, pI, pI0, pIx, pTimes, pPlus, pEq, pNe, pLen, pSum, pMaxS, pAll, pAny, pTupOf, pLstOf, pIn, pIsB, pIsi, items_tup, items_lst, items_kl, items_mr, items_tab, items_lot, items_fr, decide_true, decide_false, eqP_int, eqP_bl, eqP_str, eqP_tup2, kit_tt, kit_ii, kit_ib, tyP, mEnd, wipeP, List.map_cons, List.map_nil, List.getElem?_cons_zero, List.getElem?_cons_succ, List.set_cons_zero, List.set_cons_succ, atI_zero, atI_one, if_true, if_false, ite_true, ite_false, Bool.false_eq_true, List.length_cons, List.length_nil, Bool.not_true, Bool.not_false, S__law_fraction]
      rw [ep]
      have z1 : (2 : Nat) ^ 3 < 2 ^ 8900 := Nat.pow_lt_pow_right (by decide) (by decide)
      exact ⟨shl_ok (n := 1) (by decide) (by omega), trivial, _, _, rfl, by omega, by rw [Int.natAbs_natCast]; omega, hk⟩
    have eO : PV.tup (([] : List PV) ++ r.map fun (p : Nat) => frP (Rat.divInt (p : Int) ((2 ^ t : Nat) : Int))) = tabP (rowQ t r) := by
      rw [List.nil_append, tabP, rowQ, List.map_map]
      rfl
    rw [eO]
    have hds1 := (dist_sm hO.1 hT hOT).mono (show 44 + 44 + 2 ≤ 4000 by decide)
    have hds2 := (dist_sm hN.len hT hP).mono (show 44 + 44 + 2 ≤ 4000 by decide)
    have hgs1 : Sm 4000 (gmx (dls qs (rowQ t r))) := gmx_sm (fun x hx => ((dls_sb hO.1 hT hOT).mem_sm hx).mono (by decide)) (by decide)
    have hgs2 : Sm 4000 (gmx (dls qs ps)) := gmx_sm (fun x hx => ((dls_sb hN.len hT hP).mem_sm hx).mono (by decide)) (by decide)
    have hdc := fun b hb => near_dec hN hT.one hO (b := b) hb
    generalize rowQ t r = os at *
    subst hR2
    refine stm_of fun R2 hR2 => ?_
    simp only [mBits, mEnumC, pSortX, mDNewT, mZipM, mDc, mLenSetL, mDGetT, mDGet2T, mDInT, mDPutT, mLockX, mLockEX, mKeysX, pLstX, pLenX, pMaxT, pSortT, str_to, str_ot, mPar3, mLockV, mLockE, mItemsC, mKeysC, mDGet2, pIsN, isNonP, pRepLM, mTruD, dkOfP, pPopAt, pIndex, mLstRgM, mTruth, pReprA, pLenD, pLstD, mDNew, pRepL, mLenSetN, mDIn, mSortSet, mSortSetL, mRevT, mForC, mSeqC, mLcC, pAbs, pMax2, pMin2, pInt1, mDGet, mDPut, mBM, mBM0, pPop, pAppend, pExtend, pSetL, mSub, mDisp, mPs, mPs0, mRevL, mRevLM, pLstOfM, mTupRg, mRg1, mRg2, pPlusM, lstItems, dictOfP, keyP, keysP, val_left, val_mixed, val_draws, put_draws, mLc, mLcM, mLc2, mFor, mSeqI, mRng1, mRng2, mZip, mEnum, mSl, mNoPart, mPart, mSeq, mAsg, mAsg2, mCB, mCons, mNil, mVar, mC, mOp, mUn, pU, mTup, mLst, mRet, mRetN, mLstM, getl, setl, mName, mCall, mCallK, mIf, mIfS, mTest, mAnd, mOr, mNot, mYes, mAndV, mOrV, mNotV, mNext, mNever, mBreak, mCont, mDrop, mChain, mPar, mGTup, mGCons, mGNil, pGcd, pI, pI0, pIx, pTimes, pPlus, pEq, pNe, pLen, pSum, pMaxS, pAll, pAny, pTupOf, pLstOf, pIn, pIsB, pIsi, items_tup, items_lst, items_kl, items_mr, items_tab, items_lot, items_fr, decide_true, decide_false, eqP_int, eqP_bl, eqP_str, eqP_tup2, kit_tt, kit_ii, kit_ib, tyP, mEnd, wipeP, List.map_cons, List.map_nil, List.getElem?_cons_zero, List.getElem?_cons_succ, List.set_cons_zero, List.set_cons_succ, atI_zero, atI_one, if_true, if_false, ite_true, ite_false, Bool.false_eq_true, List.length_cons, List.length_nil, Bool.not_true, Bool.not_false, S__law_distance]
    refine ⟨trivial, 44, 44, qs, os, rfl, hT, hOT, by decide, hO.1, ?_⟩
    subst hR2
    refine stm_of fun R2 hR2 => ?_
    simp only [mBits, mEnumC, pSortX, mDNewT, mZipM, mDc, mLenSetL, mDGetT, mDGet2T, mDInT, mDPutT, mLockX, mLockEX, mKeysX, pLstX, pLenX, pMaxT, pSortT, str_to, str_ot, mPar3, mLockV, mLockE, mItemsC, mKeysC, mDGet2, pIsN, isNonP, pRepLM, mTruD, dkOfP, pPopAt, pIndex, mLstRgM, mTruth, pReprA, pLenD, pLstD, mDNew, pRepL, mLenSetN, mDIn, mSortSet, mSortSetL, mRevT, mForC, mSeqC, mLcC, pAbs, pMax2, pMin2, pInt1, mDGet, mDPut, mBM, mBM0, pPop, pAppend, pExtend, pSetL, mSub, mDisp, mPs, mPs0, mRevL, mRevLM, pLstOfM, mTupRg, mRg1, mRg2, pPlusM, lstItems, dictOfP, keyP, keysP, val_left, val_mixed, val_draws, put_draws, mLc, mLcM, mLc2, mFor, mSeqI, mRng1, mRng2, mZip, mEnum, mSl, mNoPart, mPart, mSeq, mAsg, mAsg2, mCB, mCons, mNil, mVar, mC, mOp, mUn, pU, mTup, mLst, mRet, mRetN, mLstM, getl, setl, mName, mCall, mCallK, mIf, mIfS, mTest, mAnd, mOr, mNot, mYes, mAndV, mOrV, mNotV, mNext, mNever, mBreak, mCont, mDrop, mChain, mPar, mGTup, mGCons, mGNil, pGcd, pI, pI0, pIx, pTimes, pPlus, pEq, pNe, pLen, pSum, pMaxS, pAll, pAny, pTupOf, pLstOf, pIn, pIsB, pIsi, items_tup, items_lst, items_kl, items_mr, items_tab, items_lot, items_fr, decide_true, decide_false, eqP_int, eqP_bl, eqP_str, eqP_tup2, kit_tt, kit_ii, kit_ib, tyP, mEnd, wipeP, List.map_cons, List.map_nil, List.getElem?_cons_zero, List.getElem?_cons_succ, List.set_cons_zero, List.set_cons_succ, atI_zero, atI_one, if_true, if_false, ite_true, ite_false, Bool.false_eq_true, List.length_cons, List.length_nil, Bool.not_true, Bool.not_false, S__law_is_less, S__law_greatest]
    refine ⟨trivial, _, _, rfl, hds1, hds2, ?_⟩
    rw [decide_eq_false (show ¬ d2 qs os / 2 < d2 qs ps / 2 by grind), if_neg (by decide)]
    refine ⟨trivial, 44, 44, qs, os, rfl, hT, hOT, by decide, hO.1, trivial, _, _, rfl, hgs1, hgs2, ?_⟩
    rw [decide_eq_false (Rat.not_lt.mpr hgm), if_neg (by decide)]
    subst hR2
    simp only [mBits, mEnumC, pSortX, mDNewT, mZipM, mDc, mLenSetL, mDGetT, mDGet2T, mDInT, mDPutT, mLockX, mLockEX, mKeysX, pLstX, pLenX, pMaxT, pSortT, str_to, str_ot, mPar3, mLockV, mLockE, mItemsC, mKeysC, mDGet2, pIsN, isNonP, pRepLM, mTruD, dkOfP, pPopAt, pIndex, mLstRgM, mTruth, pReprA, pLenD, pLstD, mDNew, pRepL, mLenSetN, mDIn, mSortSet, mSortSetL, mRevT, mForC, mSeqC, mLcC, pAbs, pMax2, pMin2, pInt1, mDGet, mDPut, mBM, mBM0, pPop, pAppend, pExtend, pSetL, mSub, mDisp, mPs, mPs0, mRevL, mRevLM, pLstOfM, mTupRg, mRg1, mRg2, pPlusM, lstItems, dictOfP, keyP, keysP, val_left, val_mixed, val_draws, put_draws, mLc, mLcM, mLc2, mFor, mSeqI, mRng1, mRng2, mZip, mEnum, mSl, mNoPart, mPart, mSeq, mAsg, mAsg2, mCB, mCons, mNil, mVar, mC, mOp, mUn, pU, mTup, mLst, mRet, mRetN, mLstM, getl, setl, mName, mCall, mCallK, mIf, mIfS, mTest, mAnd, mOr, mNot, mYes, mAndV, mOrV, mNotV, mNext, mNever, mBreak, mCont, mDrop, mChain, mPar, mGTup, mGCons, mGNil, pGcd, pI, pI0, pIx, pTimes, pPlus, pEq, pNe, pLen, pSum, pMaxS, pAll, pAny, pTupOf, pLstOf, pIn, pIsB, pIsi, items_tup, items_lst, items_kl, items_mr, items_tab, items_lot, items_fr, decide_true, decide_false, eqP_int, eqP_bl, eqP_str, eqP_tup2, kit_tt, kit_ii, kit_ib, tyP, mEnd, wipeP, List.map_cons, List.map_nil, List.getElem?_cons_zero, List.getElem?_cons_succ, List.set_cons_zero, List.set_cons_succ, atI_zero, atI_one, if_true, if_false, ite_true, ite_false, Bool.false_eq_true, List.length_cons, List.length_nil, Bool.not_true, Bool.not_false, S__law_is_nearest, eqP_fr]
    refine ⟨trivial, qs, os, t, rfl, hT, hOT, by omega, hO, fun b hb => ?_⟩
    rw [hdc b hb, decide_eq_true rfl, if_neg (by decide)]
    exact hN2 _ _ ⟨⟨_, _, _, _, rfl⟩, rfl⟩
  · obtain ⟨⟨y5, y6, y7, y8, rfl⟩, rfl⟩ := hI
    show R1 _ _
    subst hR1
    simp only [mBits, mEnumC, pSortX, mDNewT, mZipM, mDc, mLenSetL, mDGetT, mDGet2T, mDInT, mDPutT, mLockX, mLockEX, mKeysX, pLstX, pLenX, pMaxT, pSortT, str_to, str_ot, mPar3, mLockV, mLockE, mItemsC, mKeysC, mDGet2, pIsN, isNonP, pRepLM, mTruD, dkOfP, pPopAt, pIndex, mLstRgM, mTruth, pReprA, pLenD, pLstD, mDNew, pRepL, mLenSetN, mDIn, mSortSet, mSortSetL, mRevT, mForC, mSeqC, mLcC, pAbs, pMax2, pMin2, pInt1, mDGet, mDPut, mBM, mBM0, pPop, pAppend, pExtend, pSetL, mSub, mDisp, mPs, mPs0, mRevL, mRevLM, pLstOfM, mTupRg, mRg1, mRg2, pPlusM, lstItems, dictOfP, keyP, keysP, val_left, val_mixed, val_draws, put_draws, mLc, mLcM, mLc2, mFor, mSeqI, mRng1, mRng2, mZip, mEnum, mSl, mNoPart, mPart, mSeq, mAsg, mAsg2, mCB, mCons, mNil, mVar, mC, mOp, mUn, pU, mTup, mLst, mRet, mRetN, mLstM, getl, setl, mName, mCall, mCallK, mIf, mIfS, mTest, mAnd, mOr, mNot, mYes, mAndV, mOrV, mNotV, mNext, mNever, mBreak, mCont, mDrop, mChain, mPar, mGTup, mGCons, mGNil, pGcd, pI, pI0, pIx, pTimes, pPlus, pEq, pNe, pLen, pSum, pMaxS, pAll, pAny, pTupOf, pLstOf, pIn, pIsB, pIsi, items_tup, items_lst, items_kl, items_mr, items_tab, items_lot, items_fr, decide_true, decide_false, eqP_int, eqP_bl, eqP_str, eqP_tup2, kit_tt, kit_ii, kit_ib, tyP, mEnd, wipeP, List.map_cons, List.map_nil, List.getElem?_cons_zero, List.getElem?_cons_succ, List.set_cons_zero, List.set_cons_succ, atI_zero, atI_one, if_true, if_false, ite_true, ite_false, Bool.false_eq_true, List.length_cons, List.length_nil, Bool.not_true, Bool.not_false]
    exact fin_keep hQ
abbrev N_nearest : List Str := ["table", "t"]
theorem sc_nearest : FnScope N_nearest ["table", "t"] (defScope s_nearest) := ⟨rfl, rfl, rfl, by decide +kernel, rfl, by decide +kernel, by decide +kernel⟩
theorem ok_nearest (B : Blt mg) (h_nearest : Own K mg "nearest" s_nearest) (k_check_table : Ok P w K mg base 6 "check_table" s_check_table ["table"] S_check_table) (k_check_number : Ok P w K mg base 3 "check_number" s_check_number ["k"] S_check_number) (k_nearest_to : Ok P w K mg base 3 "nearest_to" s_nearest_to ["table", "t"] S_nearest_to) : Ok P w K mg base 7 "nearest" s_nearest ["table", "t"] S_nearest := by
  obtain ⟨f_s, fd_s, F_s, g_s⟩ := h_nearest
  obtain ⟨f_check_table, fd_check_table, F_check_table, g_check_table, b_check_table, G_check_table⟩ := k_check_table
  obtain ⟨f_check_number, fd_check_number, F_check_number, g_check_number, b_check_number, G_check_number⟩ := k_check_number
  obtain ⟨f_nearest_to, fd_nearest_to, F_nearest_to, g_nearest_to, b_nearest_to, G_nearest_to⟩ := k_nearest_to
  refine ⟨f_s, fd_s, F_s, g_s, F_s.binds (fun _ _ _ _ _ _ us hl => match us, hl with | [_, _], _ => rfl), FnG.of F_s sc_nearest (fun xs μ Q h => by first | exact h.1 | exact h.2.1 | (obtain ⟨⟩ := h)) fun cdv A outer s H hr hgd => ⟨_, _, (pss_cons (ps_expr (pe_callG (G_check_table.mono (by decide)) hr hgd (by rfl) g_check_table F_check_table.kp b_check_table (pa_cons (pv 0) pa_nil)))
 (pss_cons (ps_expr (pe_callG (G_check_number.mono (by decide)) hr hgd (by rfl) g_check_number F_check_number.kp b_check_number (pa_cons (pv 1) pa_nil)))
 (pss_one (ps_ret (pe_callG (G_nearest_to.mono (by decide)) hr hgd (by rfl) g_nearest_to F_nearest_to.kp b_nearest_to (pa_cons (pv 0) (pa_cons (pv 1) pa_nil))))))), (by (try dsimp only [cxOf]); exact inferInstance), ?_⟩⟩
  intro xs μ Q hS
  obtain ⟨_, qs, t, rfl, hT, ht, hQ⟩ := hS
  rw [show startP N_nearest [tabP qs, .int t] = [some (tabP qs), some (.int t)] from rfl]
  simp only [mBits, mEnumC, pSortX, mDNewT, mZipM, mDc, mLenSetL, mDGetT, mDGet2T, mDInT, mDPutT, mLockX, mLockEX, mKeysX, pLstX, pLenX, pMaxT, pSortT, str_to, str_ot, mPar3, mLockV, mLockE, mItemsC, mKeysC, mDGet2, pIsN, isNonP, pRepLM, mTruD, dkOfP, pPopAt, pIndex, mLstRgM, mTruth, pReprA, pLenD, pLstD, mDNew, pRepL, mLenSetN, mDIn, mSortSet, mSortSetL, mRevT, mForC, mSeqC, mLcC, pAbs, pMax2, pMin2, pInt1, mDGet, mDPut, mBM, mBM0, pPop, pAppend, pExtend, pSetL, mSub, mDisp, mPs, mPs0, mRevL, mRevLM, pLstOfM, mTupRg, mRg1, mRg2, pPlusM, lstItems, dictOfP, keyP, keysP, val_left, val_mixed, val_draws, put_draws, mLc, mLcM, mLc2, mFor, mSeqI, mRng1, mRng2, mZip, mEnum, mSl, mNoPart, mPart, mSeq, mAsg, mAsg2, mCB, mCons, mNil, mVar, mC, mOp, mUn, pU, mTup, mLst, mRet, mRetN, mLstM, getl, setl, mName, mCall, mCallK, mIf, mIfS, mTest, mAnd, mOr, mNot, mYes, mAndV, mOrV, mNotV, mNext, mNever, mBreak, mCont, mDrop, mChain, mPar, mGTup, mGCons, mGNil, pGcd, pI, pI0, pIx, pTimes, pPlus, pEq, pNe, pLen, pSum, pMaxS, pAll, pAny, pTupOf, pLstOf, pIn, pIsB, pIsi, items_tup, items_lst, items_kl, items_mr, items_tab, items_lot, items_fr, decide_true, decide_false, eqP_int, eqP_bl, eqP_str, eqP_tup2, kit_tt, kit_ii, kit_ib, tyP, mEnd, wipeP, List.map_cons, List.map_nil, List.getElem?_cons_zero, List.getElem?_cons_succ, List.set_cons_zero, List.set_cons_succ, atI_zero, atI_one, if_true, if_false, ite_true, ite_false, Bool.false_eq_true, List.length_cons, List.length_nil, Bool.not_true, Bool.not_false, S_check_table, S_check_number, S_nearest_to]
  exact ⟨trivial, qs, rfl, hT.mono (by decide), trivial, _, rfl, by omega, trivial, qs, t, rfl, hT, ht, fun ps hp => fin_keep (hQ ps hp)⟩
abbrev N_can_be_drawn : List Str := ["table", "t"]
theorem sc_can_be_drawn : FnScope N_can_be_drawn ["table", "t"] (defScope s_can_be_drawn) := ⟨rfl, rfl, rfl, by decide +kernel, rfl, by decide +kernel, by decide +kernel⟩
theorem ok_can_be_drawn (B : Blt mg) (h_can_be_drawn : Own K mg "can_be_drawn" s_can_be_drawn) (k_check_table : Ok P w K mg base 6 "check_table" s_check_table ["table"] S_check_table) (k_check_number : Ok P w K mg base 3 "check_number" s_check_number ["k"] S_check_number) (k_is_within_bits : Ok P w K mg base 2 "is_within_bits" s_is_within_bits ["table", "t"] S_is_within_bits) : Ok P w K mg base 7 "can_be_drawn" s_can_be_drawn ["table", "t"] S_can_be_drawn := by
  obtain ⟨f_s, fd_s, F_s, g_s⟩ := h_can_be_drawn
  obtain ⟨f_check_table, fd_check_table, F_check_table, g_check_table, b_check_table, G_check_table⟩ := k_check_table
  obtain ⟨f_check_number, fd_check_number, F_check_number, g_check_number, b_check_number, G_check_number⟩ := k_check_number
  obtain ⟨f_is_within_bits, fd_is_within_bits, F_is_within_bits, g_is_within_bits, b_is_within_bits, G_is_within_bits⟩ := k_is_within_bits
  refine ⟨f_s, fd_s, F_s, g_s, F_s.binds (fun _ _ _ _ _ _ us hl => match us, hl with | [_, _], _ => rfl), FnG.of F_s sc_can_be_drawn (fun xs μ Q h => by first | exact h.1 | exact h.2.1 | (obtain ⟨⟩ := h)) fun cdv A outer s H hr hgd => ⟨_, _, (pss_cons (ps_expr (pe_callG (G_check_table.mono (by decide)) hr hgd (by rfl) g_check_table F_check_table.kp b_check_table (pa_cons (pv 0) pa_nil)))
 (pss_cons (ps_expr (pe_callG (G_check_number.mono (by decide)) hr hgd (by rfl) g_check_number F_check_number.kp b_check_number (pa_cons (pv 1) pa_nil)))
 (pss_one (ps_ret (pe_callG (G_is_within_bits.mono (by decide)) hr hgd (by rfl) g_is_within_bits F_is_within_bits.kp b_is_within_bits (pa_cons (pv 0) (pa_cons (pv 1) pa_nil))))))), (by (try dsimp only [cxOf]); exact inferInstance), ?_⟩⟩
  intro xs μ Q hS
  obtain ⟨_, qs, t, rfl, hT, hQ⟩ := hS
  rw [show startP N_can_be_drawn [tabP qs, .int t] = [some (tabP qs), some (.int t)] from rfl]
  simp only [mBits, mEnumC, pSortX, mDNewT, mZipM, mDc, mLenSetL, mDGetT, mDGet2T, mDInT, mDPutT, mLockX, mLockEX, mKeysX, pLstX, pLenX, pMaxT, pSortT, str_to, str_ot, mPar3, mLockV, mLockE, mItemsC, mKeysC, mDGet2, pIsN, isNonP, pRepLM, mTruD, dkOfP, pPopAt, pIndex, mLstRgM, mTruth, pReprA, pLenD, pLstD, mDNew, pRepL, mLenSetN, mDIn, mSortSet, mSortSetL, mRevT, mForC, mSeqC, mLcC, pAbs, pMax2, pMin2, pInt1, mDGet, mDPut, mBM, mBM0, pPop, pAppend, pExtend, pSetL, mSub, mDisp, mPs, mPs0, mRevL, mRevLM, pLstOfM, mTupRg, mRg1, mRg2, pPlusM, lstItems, dictOfP, keyP, keysP, val_left, val_mixed, val_draws, put_draws, mLc, mLcM, mLc2, mFor, mSeqI, mRng1, mRng2, mZip, mEnum, mSl, mNoPart, mPart, mSeq, mAsg, mAsg2, mCB, mCons, mNil, mVar, mC, mOp, mUn, pU, mTup, mLst, mRet, mRetN, mLstM, getl, setl, mName, mCall, mCallK, mIf, mIfS, mTest, mAnd, mOr, mNot, mYes, mAndV, mOrV, mNotV, mNext, mNever, mBreak, mCont, mDrop, mChain, mPar, mGTup, mGCons, mGNil, pGcd, pI, pI0, pIx, pTimes, pPlus, pEq, pNe, pLen, pSum, pMaxS, pAll, pAny, pTupOf, pLstOf, pIn, pIsB, pIsi, items_tup, items_lst, items_kl, items_mr, items_tab, items_lot, items_fr, decide_true, decide_false, eqP_int, eqP_bl, eqP_str, eqP_tup2, kit_tt, kit_ii, kit_ib, tyP, mEnd, wipeP, List.map_cons, List.map_nil, List.getElem?_cons_zero, List.getElem?_cons_succ, List.set_cons_zero, List.set_cons_succ, atI_zero, atI_one, if_true, if_false, ite_true, ite_false, Bool.false_eq_true, List.length_cons, List.length_nil, Bool.not_true, Bool.not_false, S_check_table, S_check_number, S_is_within_bits]
  exact ⟨trivial, qs, rfl, hT, trivial, _, rfl, by omega, trivial, qs, t, rfl, hT.len, fin_keep hQ⟩
abbrev N_check_pair : List Str := ["table", "other"]
theorem sc_check_pair : FnScope N_check_pair ["table", "other"] (defScope s_check_pair) := ⟨rfl, rfl, rfl, by decide +kernel, rfl, by decide +kernel, by decide +kernel⟩
theorem ok_check_pair (B : Blt mg) (h_check_pair : Own K mg "check_pair" s_check_pair) (k_check_table : Ok P w K mg base 6 "check_table" s_check_table ["table"] S_check_table) : Ok P w K mg base 7 "check_pair" s_check_pair ["table", "other"] S_check_pair := by
  obtain ⟨f_s, fd_s, F_s, g_s⟩ := h_check_pair
  obtain ⟨f_check_table, fd_check_table, F_check_table, g_check_table, b_check_table, G_check_table⟩ := k_check_table
  refine ⟨f_s, fd_s, F_s, g_s, F_s.binds (fun _ _ _ _ _ _ us hl => match us, hl with | [_, _], _ => rfl), FnG.of F_s sc_check_pair (fun xs μ Q h => by first | exact h.1 | exact h.2.1 | (obtain ⟨⟩ := h)) fun cdv A outer s H hr hgd => ⟨_, _, (pss_cons (ps_expr (pe_callG (G_check_table.mono (by decide)) hr hgd (by rfl) g_check_table F_check_table.kp b_check_table (pa_cons (pv 0) pa_nil)))
 (pss_cons (ps_expr (pe_callG (G_check_table.mono (by decide)) hr hgd (by rfl) g_check_table F_check_table.kp b_check_table (pa_cons (pv 1) pa_nil)))
 (pss_one (ps_if (pt_cmpR (op_neX hr.units) (pe_callB cb_len (by rfl) (B "len" (by decide)) (by decide +kernel) (pa_cons (pv 0) pa_nil)) (pe_callB cb_len (by rfl) (B "len" (by decide)) (by decide +kernel) (pa_cons (pv 1) pa_nil)) (nomark _))
 (pss_one ps_never)
 pss_nil)))), (by (try dsimp only [cxOf]); exact inferInstance), ?_⟩⟩
  intro xs μ Q hS
  obtain ⟨_, a, b, rfl, ha, hb, hl, hQ⟩ := hS
  rw [show startP N_check_pair [tabP a, tabP b] = [some (tabP a), some (tabP b)] from rfl]
  simp only [mBits, mEnumC, pSortX, mDNewT, mZipM, mDc, mLenSetL, mDGetT, mDGet2T, mDInT, mDPutT, mLockX, mLockEX, mKeysX, pLstX, pLenX, pMaxT, pSortT, str_to, str_ot, mPar3, mLockV, mLockE, mItemsC, mKeysC, mDGet2, pIsN, isNonP, pRepLM, mTruD, dkOfP, pPopAt, pIndex, mLstRgM, mTruth, pReprA, pLenD, pLstD, mDNew, pRepL, mLenSetN, mDIn, mSortSet, mSortSetL, mRevT, mForC, mSeqC, mLcC, pAbs, pMax2, pMin2, pInt1, mDGet, mDPut, mBM, mBM0, pPop, pAppend, pExtend, pSetL, mSub, mDisp, mPs, mPs0, mRevL, mRevLM, pLstOfM, mTupRg, mRg1, mRg2, pPlusM, lstItems, dictOfP, keyP, keysP, val_left, val_mixed, val_draws, put_draws, mLc, mLcM, mLc2, mFor, mSeqI, mRng1, mRng2, mZip, mEnum, mSl, mNoPart, mPart, mSeq, mAsg, mAsg2, mCB, mCons, mNil, mVar, mC, mOp, mUn, pU, mTup, mLst, mRet, mRetN, mLstM, getl, setl, mName, mCall, mCallK, mIf, mIfS, mTest, mAnd, mOr, mNot, mYes, mAndV, mOrV, mNotV, mNext, mNever, mBreak, mCont, mDrop, mChain, mPar, mGTup, mGCons, mGNil, pGcd, pI, pI0, pIx, pTimes, pPlus, pEq, pNe, pLen, pSum, pMaxS, pAll, pAny, pTupOf, pLstOf, pIn, pIsB, pIsi, items_tup, items_lst, items_kl, items_mr, items_tab, items_lot, items_fr, decide_true, decide_false, eqP_int, eqP_bl, eqP_str, eqP_tup2, kit_tt, kit_ii, kit_ib, tyP, mEnd, wipeP, List.map_cons, List.map_nil, List.getElem?_cons_zero, List.getElem?_cons_succ, List.set_cons_zero, List.set_cons_succ, atI_zero, atI_one, if_true, if_false, ite_true, ite_false, Bool.false_eq_true, List.length_cons, List.length_nil, Bool.not_true, Bool.not_false]
  refine ⟨rfl, a, rfl, ha, rfl, b, rfl, hb, ?_⟩
  have e : decide ((((a.map frP).length : Nat) : Int) = (((b.map frP).length : Nat) : Int)) = true := by simp [hl]
  simp only [e, Bool.not_true, Bool.false_eq_true, if_false]
  exact fin_keep hQ
abbrev N_distance : List Str := ["table", "other"]
theorem sc_distance : FnScope N_distance ["table", "other"] (defScope s_distance) := ⟨rfl, rfl, rfl, by decide +kernel, rfl, by decide +kernel, by decide +kernel⟩
theorem ok_distance (B : Blt mg) (h_distance : Own K mg "distance" s_distance) (k_check_pair : Ok P w K mg base 7 "check_pair" s_check_pair ["table", "other"] S_check_pair) (k_amount_apart : Ok P w K mg base 4 "amount_apart" s_amount_apart ["table", "other"] S_amount_apart) : Ok P w K mg base 8 "distance" s_distance ["table", "other"] S_distance := by
  obtain ⟨f_s, fd_s, F_s, g_s⟩ := h_distance
  obtain ⟨f_check_pair, fd_check_pair, F_check_pair, g_check_pair, b_check_pair, G_check_pair⟩ := k_check_pair
  obtain ⟨f_amount_apart, fd_amount_apart, F_amount_apart, g_amount_apart, b_amount_apart, G_amount_apart⟩ := k_amount_apart
  refine ⟨f_s, fd_s, F_s, g_s, F_s.binds (fun _ _ _ _ _ _ us hl => match us, hl with | [_, _], _ => rfl), FnG.of F_s sc_distance (fun xs μ Q h => by first | exact h.1 | exact h.2.1 | (obtain ⟨⟩ := h)) fun cdv A outer s H hr hgd => ⟨_, _, (pss_cons (ps_expr (pe_callG (G_check_pair.mono (by decide)) hr hgd (by rfl) g_check_pair F_check_pair.kp b_check_pair (pa_cons (pv 0) (pa_cons (pv 1) pa_nil))))
 (pss_one (ps_ret (pe_callG (G_amount_apart.mono (by decide)) hr hgd (by rfl) g_amount_apart F_amount_apart.kp b_amount_apart (pa_cons (pv 0) (pa_cons (pv 1) pa_nil)))))), (by (try dsimp only [cxOf]); exact inferInstance), ?_⟩⟩
  intro xs μ Q hS
  obtain ⟨_, m, n, a, b, rfl, ha, hb, hz, hl, hQ⟩ := hS
  rw [show startP N_distance [tabP a, tabP b] = [some (tabP a), some (tabP b)] from rfl]
  simp only [mBits, mEnumC, pSortX, mDNewT, mZipM, mDc, mLenSetL, mDGetT, mDGet2T, mDInT, mDPutT, mLockX, mLockEX, mKeysX, pLstX, pLenX, pMaxT, pSortT, str_to, str_ot, mPar3, mLockV, mLockE, mItemsC, mKeysC, mDGet2, pIsN, isNonP, pRepLM, mTruD, dkOfP, pPopAt, pIndex, mLstRgM, mTruth, pReprA, pLenD, pLstD, mDNew, pRepL, mLenSetN, mDIn, mSortSet, mSortSetL, mRevT, mForC, mSeqC, mLcC, pAbs, pMax2, pMin2, pInt1, mDGet, mDPut, mBM, mBM0, pPop, pAppend, pExtend, pSetL, mSub, mDisp, mPs, mPs0, mRevL, mRevLM, pLstOfM, mTupRg, mRg1, mRg2, pPlusM, lstItems, dictOfP, keyP, keysP, val_left, val_mixed, val_draws, put_draws, mLc, mLcM, mLc2, mFor, mSeqI, mRng1, mRng2, mZip, mEnum, mSl, mNoPart, mPart, mSeq, mAsg, mAsg2, mCB, mCons, mNil, mVar, mC, mOp, mUn, pU, mTup, mLst, mRet, mRetN, mLstM, getl, setl, mName, mCall, mCallK, mIf, mIfS, mTest, mAnd, mOr, mNot, mYes, mAndV, mOrV, mNotV, mNext, mNever, mBreak, mCont, mDrop, mChain, mPar, mGTup, mGCons, mGNil, pGcd, pI, pI0, pIx, pTimes, pPlus, pEq, pNe, pLen, pSum, pMaxS, pAll, pAny, pTupOf, pLstOf, pIn, pIsB, pIsi, items_tup, items_lst, items_kl, items_mr, items_tab, items_lot, items_fr, decide_true, decide_false, eqP_int, eqP_bl, eqP_str, eqP_tup2, kit_tt, kit_ii, kit_ib, tyP, mEnd, wipeP, List.map_cons, List.map_nil, List.getElem?_cons_zero, List.getElem?_cons_succ, List.set_cons_zero, List.set_cons_succ, atI_zero, atI_one, if_true, if_false, ite_true, ite_false, Bool.false_eq_true, List.length_cons, List.length_nil, Bool.not_true, Bool.not_false]
  exact ⟨rfl, a, b, rfl, ha.mono (by omega), hb.mono (by omega), hl, rfl, m, n, a, b, rfl, ha, hb, hz, hl, fin_keep hQ⟩
abbrev N__law_is_right : List Str := ["_law_deck_here", "_law_table_here", "_law_t", "_law_told", "_law_due", "_law_more"]
theorem sc__law_is_right : FnScope N__law_is_right ["_law_deck_here", "_law_table_here", "_law_t"] (defScope s__law_is_right) := ⟨rfl, rfl, rfl, by decide +kernel, rfl, by decide +kernel, by decide +kernel⟩
theorem ok__law_is_right (B : Blt mg) (h__law_is_right : Own K mg "_law_is_right" s__law_is_right) (k_nearest : Ok P w K mg base 7 "nearest" s_nearest ["table", "t"] S_nearest) (k__law_is_nearest : Ok P w K mg base 4 "_law_is_nearest" s__law_is_nearest ["_law_table_here", "_law_t", "_law_other"] S__law_is_nearest) (k__law_drawable : Ok P w K mg base 4 "_law_drawable" s__law_drawable ["_law_table_here", "_law_t"] S__law_drawable) (k__law_is_table : Ok P w K mg base 5 "_law_is_table" s__law_is_table ["_law_thing"] S__law_is_table) (k_can_be_drawn : Ok P w K mg base 7 "can_be_drawn" s_can_be_drawn ["table", "t"] S_can_be_drawn) (k_distance : Ok P w K mg base 8 "distance" s_distance ["table", "other"] S_distance) (k__law_least_distance : Ok P w K mg base 5 "_law_least_distance" s__law_least_distance ["_law_table_here", "_law_t"] S__law_least_distance) (k__law_is_less : Ok P w K mg base 1 "_law_is_less" s__law_is_less ["_law_one", "_law_other"] S__law_is_less) (k__law_distance : Ok P w K mg base 4 "_law_distance" s__law_distance ["_law_one", "_law_other"] S__law_distance) : Ok P w K mg base 9 "_law_is_right" s__law_is_right ["_law_deck_here", "_law_table_here", "_law_t"] S__law_is_right := by
  obtain ⟨f_s, fd_s, F_s, g_s⟩ := h__law_is_right
  obtain ⟨f_nearest, fd_nearest, F_nearest, g_nearest, b_nearest, G_nearest⟩ := k_nearest
  obtain ⟨f__law_is_nearest, fd__law_is_nearest, F__law_is_nearest, g__law_is_nearest, b__law_is_nearest, G__law_is_nearest⟩ := k__law_is_nearest
  obtain ⟨f__law_drawable, fd__law_drawable, F__law_drawable, g__law_drawable, b__law_drawable, G__law_drawable⟩ := k__law_drawable
  obtain ⟨f__law_is_table, fd__law_is_table, F__law_is_table, g__law_is_table, b__law_is_table, G__law_is_table⟩ := k__law_is_table
  obtain ⟨f_can_be_drawn, fd_can_be_drawn, F_can_be_drawn, g_can_be_drawn, b_can_be_drawn, G_can_be_drawn⟩ := k_can_be_drawn
  obtain ⟨f_distance, fd_distance, F_distance, g_distance, b_distance, G_distance⟩ := k_distance
  obtain ⟨f__law_least_distance, fd__law_least_distance, F__law_least_distance, g__law_least_distance, b__law_least_distance, G__law_least_distance⟩ := k__law_least_distance
  obtain ⟨f__law_is_less, fd__law_is_less, F__law_is_less, g__law_is_less, b__law_is_less, G__law_is_less⟩ := k__law_is_less
  obtain ⟨f__law_distance, fd__law_distance, F__law_distance, g__law_distance, b__law_distance, G__law_distance⟩ := k__law_distance
  have kb_can_be_drawn_t_table : KBs fd_can_be_drawn ["table", "t"] ["t", "table"] 0 [1, 0] := kbs_mk F_can_be_drawn fun _ _ _ _ _ _ us ws hu hw => match us, ws, hu, hw with | [], [_, _], _, _ => rfl
  have kb_nearest_t_table : KBs fd_nearest ["table", "t"] ["t", "table"] 0 [1, 0] := kbs_mk F_nearest fun _ _ _ _ _ _ us ws hu hw => match us, ws, hu, hw with | [], [_, _], _, _ => rfl
  refine ⟨f_s, fd_s, F_s, g_s, F_s.binds (fun _ _ _ _ _ _ us hl => match us, hl with | [_, _, _], _ => rfl), FnG.of F_s sc__law_is_right (fun xs μ Q h => by first | exact h.1 | exact h.2.1 | (obtain ⟨⟩ := h)) fun cdv A outer s H hr hgd => ⟨_, _, (pss_cons (ps_set (i := 3) sc__law_is_right.nd rfl (Or.inl rfl) (pe_callG (G_nearest.mono (by decide)) hr hgd (by rfl) g_nearest F_nearest.kp b_nearest (pa_cons (pv 1) (pa_cons (pv 2) pa_nil))))
 (pss_cons (ps_if (PW.pt (pw_or (pt_not (pt_val (pe_callG (G__law_is_table.mono (by decide)) hr hgd (by rfl) g__law_is_table F__law_is_table.kp b__law_is_table (pa_cons (pv 3) pa_nil)))) (pw_or (pt_cmpR (op_neX hr.units) (pe_callB cb_len (by rfl) (B "len" (by decide)) (by decide +kernel) (pa_cons (pv 3) pa_nil)) (pe_callB cb_len (by rfl) (B "len" (by decide)) (by decide +kernel) (pa_cons (pv 1) pa_nil)) (nomark _)) (pw_or (pt_not (pt_val (pe_callG (G__law_drawable.mono (by decide)) hr hgd (by rfl) g__law_drawable F__law_drawable.kp b__law_drawable (pa_cons (pv 3) (pa_cons (pv 2) pa_nil))))) (pw_or1 (pt_not (pt_val (pe_callG (G__law_is_nearest.mono (by decide)) hr hgd (by rfl) g__law_is_nearest F__law_is_nearest.kp b__law_is_nearest (pa_cons (pv 1) (pa_cons (pv 2) (pa_cons (pv 3) pa_nil)))))))))))
 (pss_one (ps_ret pe_bl))
 pss_nil)
 (pss_cons (ps_if (PW.pt (pw_or (pt_cmpR (op_neX hr.units) (pe_callB (cb_repr hgd hr.units) (by rfl) (B "repr" (by decide)) (by decide +kernel) (pa_cons (pe_callG (G_distance.mono (by decide)) hr hgd (by rfl) g_distance F_distance.kp b_distance (pa_cons (pv 1) (pa_cons (pv 3) pa_nil))) pa_nil)) (pe_callB (cb_repr hgd hr.units) (by rfl) (B "repr" (by decide)) (by decide +kernel) (pa_cons (pe_callG (G__law_least_distance.mono (by decide)) hr hgd (by rfl) g__law_least_distance F__law_least_distance.kp b__law_least_distance (pa_cons (pv 1) (pa_cons (pv 2) pa_nil))) pa_nil)) (nomark _)) (pw_or1 (pt_cmpR op_notBl (pe_callG (G_can_be_drawn.mono (by decide)) hr hgd (by rfl) g_can_be_drawn F_can_be_drawn.kp b_can_be_drawn (pa_cons (pv 3) (pa_cons (pv 2) pa_nil))) pe_bl (nomark _)))))
 (pss_one (ps_ret pe_bl))
 pss_nil)
 (pss_cons (ps_set (i := 4) sc__law_is_right.nd rfl (Or.inl rfl) (pe_callG (G__law_drawable.mono (by decide)) hr hgd (by rfl) g__law_drawable F__law_drawable.kp b__law_drawable (pa_cons (pv 1) (pa_cons (pv 2) pa_nil))))
 (pss_cons (ps_if (PW.pt (pw_or (pt_cmpR (op_neX hr.units) (pe_callB (cb_repr hgd hr.units) (by rfl) (B "repr" (by decide)) (by decide +kernel) (pa_cons (pe_tup (pa_cons (pe_callG (G_can_be_drawn.mono (by decide)) hr hgd (by rfl) g_can_be_drawn F_can_be_drawn.kp b_can_be_drawn (pa_cons (pv 1) (pa_cons (pv 2) pa_nil))) (pa_cons (pe_callK0G (G_can_be_drawn.mono (by decide)) hr hgd (by rfl) g_can_be_drawn F_can_be_drawn.kp kb_can_be_drawn_t_table (pk_cons (pv 2) (pk_cons (pv 1) pk_nil))) pa_nil))) pa_nil)) (pe_callB (cb_repr hgd hr.units) (by rfl) (B "repr" (by decide)) (by decide +kernel) (pa_cons (pe_tup (pa_cons (pv 4) (pa_cons (pv 4) pa_nil))) pa_nil)) (nomark _)) (pw_or1 (PW.pt (pw_and (pt_val (pv 4)) (pw_and1 (pt_cmpR (op_neX hr.units) (pe_callB (cb_repr hgd hr.units) (by rfl) (B "repr" (by decide)) (by decide +kernel) (pa_cons (pv 3) pa_nil)) (pe_callB (cb_repr hgd hr.units) (by rfl) (B "repr" (by decide)) (by decide +kernel) (pa_cons (pv 1) pa_nil)) (nomark _))))))))
 (pss_one (ps_ret pe_bl))
 pss_nil)
 (pss_cons (ps_set (i := 5) sc__law_is_right.nd rfl (Or.inl rfl) (pe_callK0G (G_nearest.mono (by decide)) hr hgd (by rfl) g_nearest F_nearest.kp kb_nearest_t_table (pk_cons (pe_callB (cb_min2 rfl) (by rfl) (B "min" (by decide)) (by decide +kernel) (pa_cons pe_int (pa_cons (pe_op op_plus (pv 2) pe_int) pa_nil))) (pk_cons (pv 1) pk_nil))))
 (pss_one (ps_ret (pe_and (pe_not (pe_callG (G__law_is_less.mono (by decide)) hr hgd (by rfl) g__law_is_less F__law_is_less.kp b__law_is_less (pa_cons (pe_callG (G__law_distance.mono (by decide)) hr hgd (by rfl) g__law_distance F__law_distance.kp b__law_distance (pa_cons (pv 1) (pa_cons (pv 3) pa_nil))) (pa_cons (pe_callG (G__law_distance.mono (by decide)) hr hgd (by rfl) g__law_distance F__law_distance.kp b__law_distance (pa_cons (pv 1) (pa_cons (pv 5) pa_nil))) pa_nil)))) (pe_one (pe_cmpR (op_eqX hr.units) (pe_callB (cb_repr hgd hr.units) (by rfl) (B "repr" (by decide)) (by decide +kernel) (pa_cons (pe_callG (G_nearest.mono (by decide)) hr hgd (by rfl) g_nearest F_nearest.kp b_nearest (pa_cons (pv 3) (pa_cons (pv 2) pa_nil))) pa_nil)) (pe_callB (cb_repr hgd hr.units) (by rfl) (B "repr" (by decide)) (by decide +kernel) (pa_cons (pv 3) pa_nil)) (nomark _)))))))))))), (by (try dsimp only [cxOf]); exact inferInstance), ?_⟩⟩
  intro xs μ Q hS
  obtain ⟨_, qs, t, rfl, hT, ht, hQ⟩ := hS
  rw [show startP N__law_is_right [.mr 1, tabP qs, .int t] = [some (.mr 1), some (tabP qs), some (.int t), none, none, none] from rfl]
  refine stm_of fun R hR => ?_
  simp only [mBits, mEnumC, pSortX, mDNewT, mZipM, mDc, mLenSetL, mDGetT, mDGet2T, mDInT, mDPutT, mLockX, mLockEX, mKeysX, pLstX, pLenX, pMaxT, pSortT, str_to, str_ot, mPar3, mLockV, mLockE, mItemsC, mKeysC, mDGet2, pIsN, isNonP, pRepLM, mTruD, dkOfP, pPopAt, pIndex, mLstRgM, mTruth, pReprA, pLenD, pLstD, mDNew, pRepL, mLenSetN, mDIn, mSortSet, mSortSetL, mRevT, mForC, mSeqC, mLcC, pAbs, pMax2, pMin2, pInt1, mDGet, mDPut, mBM, mBM0, pPop, pAppend, pExtend, pSetL, mSub, mDisp, mPs, mPs0, mRevL, mRevLM, pLstOfM, mTupRg, mRg1, mRg2, pPlusM, lstItems, dictOfP, keyP, keysP, val_left, val_mixed, val_draws, put_draws, mLc, mLcM, mLc2, mFor, mSeqI, mRng1, mRng2, mZip, mEnum, mSl, mNoPart, mPart, mSeq, mAsg, mAsg2, mCB, mCons, mNil, mVar, mC, mOp, mUn, pU, mTup, mLst, mRet, mRetN, mLstM, getl, setl, mName, mCall, mCallK, mIf, mIfS, mTest, mAnd, mOr, mNot, mYes, mAndV, mOrV, mNotV, mNext, mNever, mBreak, mCont, mDrop, mChain, mPar, mGTup, mGCons, mGNil, pGcd, pI, pI0, pIx, pTimes, pPlus, pEq, pNe, pLen, pSum, pMaxS, pAll, pAny, pTupOf, pLstOf, pIn, pIsB, pIsi, items_tup, items_lst, items_kl, items_mr, items_tab, items_lot, items_fr, decide_true, decide_false, eqP_int, eqP_bl, eqP_str, eqP_tup2, kit_tt, kit_ii, kit_ib, tyP, mEnd, wipeP, List.map_cons, List.map_nil, List.getElem?_cons_zero, List.getElem?_cons_succ, List.set_cons_zero, List.set_cons_succ, atI_zero, atI_one, if_true, if_false, ite_true, ite_false, Bool.false_eq_true, List.length_cons, List.length_nil, Bool.not_true, Bool.not_false, S_nearest]
  refine ⟨trivial, qs, t, rfl, hT, by omega, fun ps hN => ?_⟩
  have hP := near_tab hN hT (by omega)
  have hO := near_whl hN
  subst hR
  refine stm_of fun R hR => ?_
  simp only [mBits, mEnumC, pSortX, mDNewT, mZipM, mDc, mLenSetL, mDGetT, mDGet2T, mDInT, mDPutT, mLockX, mLockEX, mKeysX, pLstX, pLenX, pMaxT, pSortT, str_to, str_ot, mPar3, mLockV, mLockE, mItemsC, mKeysC, mDGet2, pIsN, isNonP, pRepLM, mTruD, dkOfP, pPopAt, pIndex, mLstRgM, mTruth, pReprA, pLenD, pLstD, mDNew, pRepL, mLenSetN, mDIn, mSortSet, mSortSetL, mRevT, mForC, mSeqC, mLcC, pAbs, pMax2, pMin2, pInt1, mDGet, mDPut, mBM, mBM0, pPop, pAppend, pExtend, pSetL, mSub, mDisp, mPs, mPs0, mRevL, mRevLM, pLstOfM, mTupRg, mRg1, mRg2, pPlusM, lstItems, dictOfP, keyP, keysP, val_left, val_mixed, val_draws, put_draws, mLc, mLcM, mLc2, mFor, mSeqI, mRng1, mRng2, mZip, mEnum, mSl, mNoPart, mPart, mSeq, mAsg, mAsg2, mCB, mCons, mNil, mVar, mC, mOp, mUn, pU, mTup, mLst, mRet, mRetN, mLstM, getl, setl, mName, mCall, mCallK, mIf, mIfS, mTest, mAnd, mOr, mNot, mYes, mAndV, mOrV, mNotV, mNext, mNever, mBreak, mCont, mDrop, mChain, mPar, mGTup, mGCons, mGNil, pGcd, pI, pI0, pIx, pTimes, pPlus, pEq, pNe, pLen, pSum, pMaxS, pAll, pAny, pTupOf, pLstOf, pIn, pIsB, pIsi, items_tup, items_lst, items_kl, items_mr, items_tab, items_lot, items_fr, decide_true, decide_false, eqP_int, eqP_bl, eqP_str, eqP_tup2, kit_tt, kit_ii, kit_ib, tyP, mEnd, wipeP, List.map_cons, List.map_nil, List.getElem?_cons_zero, List.getElem?_cons_succ, List.set_cons_zero, List.set_cons_succ, atI_zero, atI_one, if_true, if_false, ite_true, ite_false, Bool.false_eq_true, List.length_cons, List.length_nil, Bool.not_true, Bool.not_false, S__law_is_table, S__law_drawable, S__law_is_nearest, tabP, List.length_map]
  refine ⟨trivial, ps, rfl, hP.mono (by decide), ?_⟩
  have hnl : (!decide ((ps.length : Int) = (qs.length : Int))) = false := by rw [hN.len, decide_eq_true rfl]; rfl
  have hwd : ∀ p ∈ ps, p.den ∣ 2 ^ t := fun p hp => whl_dvd (hO.2.2 p hp)
  rw [hnl, if_neg (by decide)]
  refine ⟨trivial, ps, t, rfl, hP, by omega, ?_⟩
  rw [decide_eq_true hwd, if_neg (by decide)]
  refine ⟨trivial, qs, ps, t, rfl, hT, hP, by omega, hO, fun b hb => ?_⟩
  have eb : b = true := hb.mpr ((nrb_iff hO).mpr hN)
  subst eb
  rw [if_neg (by decide)]
  subst hR
  refine stm_of fun R hR => ?_
  simp only [mBits, mEnumC, pSortX, mDNewT, mZipM, mDc, mLenSetL, mDGetT, mDGet2T, mDInT, mDPutT, mLockX, mLockEX, mKeysX, pLstX, pLenX, pMaxT, pSortT, str_to, str_ot, mPar3, mLockV, mLockE, mItemsC, mKeysC, mDGet2, pIsN, isNonP, pRepLM, mTruD, dkOfP, pPopAt, pIndex, mLstRgM, mTruth, pReprA, pLenD, pLstD, mDNew, pRepL, mLenSetN, mDIn, mSortSet, mSortSetL, mRevT, mForC, mSeqC, mLcC, pAbs, pMax2, pMin2, pInt1, mDGet, mDPut, mBM, mBM0, pPop, pAppend, pExtend, pSetL, mSub, mDisp, mPs, mPs0, mRevL, mRevLM, pLstOfM, mTupRg, mRg1, mRg2, pPlusM, lstItems, dictOfP, keyP, keysP, val_left, val_mixed, val_draws, put_draws, mLc, mLcM, mLc2, mFor, mSeqI, mRng1, mRng2, mZip, mEnum, mSl, mNoPart, mPart, mSeq, mAsg, mAsg2, mCB, mCons, mNil, mVar, mC, mOp, mUn, pU, mTup, mLst, mRet, mRetN, mLstM, getl, setl, mName, mCall, mCallK, mIf, mIfS, mTest, mAnd, mOr, mNot, mYes, mAndV, mOrV, mNotV, mNext, mNever, mBreak, mCont, mDrop, mChain, mPar, mGTup, mGCons, mGNil, pGcd, pI, pI0, pIx, pTimes, pPlus, pEq, pNe, pLen, pSum, pMaxS, pAll, pAny, pTupOf, pLstOf, pIn, pIsB, pIsi, items_tup, items_lst, items_kl, items_mr, items_tab, items_lot, items_fr, decide_true, decide_false, eqP_int, eqP_bl, eqP_str, eqP_tup2, kit_tt, kit_ii, kit_ib, tyP, mEnd, wipeP, List.map_cons, List.map_nil, List.getElem?_cons_zero, List.getElem?_cons_succ, List.set_cons_zero, List.set_cons_succ, atI_zero, atI_one, if_true, if_false, ite_true, ite_false, Bool.false_eq_true, List.length_cons, List.length_nil, Bool.not_true, Bool.not_false, S_distance, S__law_least_distance, S_can_be_drawn]
  have hd1 := (dist_sm hN.len hT hP).mono (show 44 + 44 + 2 ≤ 1900 by decide)
  refine ⟨trivial, 44, 44, qs, ps, rfl, hT, hP, by decide, hN.len, pRepr_fr hd1 ⟨trivial, qs, ps, t, rfl, hT, by omega, hN, pRepr_fr hd1 ?_⟩⟩
  simp only [eqP_str, decide_true, Bool.not_true, Bool.false_eq_true, if_false]
  refine ⟨trivial, ps, t, rfl, hP.mono (by decide), ?_⟩
  rw [decide_eq_true hwd]
  rw [if_neg (by decide)]
  subst hR
  refine stm_of fun R hR => ?_
  simp only [mBits, mEnumC, pSortX, mDNewT, mZipM, mDc, mLenSetL, mDGetT, mDGet2T, mDInT, mDPutT, mLockX, mLockEX, mKeysX, pLstX, pLenX, pMaxT, pSortT, str_to, str_ot, mPar3, mLockV, mLockE, mItemsC, mKeysC, mDGet2, pIsN, isNonP, pRepLM, mTruD, dkOfP, pPopAt, pIndex, mLstRgM, mTruth, pReprA, pLenD, pLstD, mDNew, pRepL, mLenSetN, mDIn, mSortSet, mSortSetL, mRevT, mForC, mSeqC, mLcC, pAbs, pMax2, pMin2, pInt1, mDGet, mDPut, mBM, mBM0, pPop, pAppend, pExtend, pSetL, mSub, mDisp, mPs, mPs0, mRevL, mRevLM, pLstOfM, mTupRg, mRg1, mRg2, pPlusM, lstItems, dictOfP, keyP, keysP, val_left, val_mixed, val_draws, put_draws, mLc, mLcM, mLc2, mFor, mSeqI, mRng1, mRng2, mZip, mEnum, mSl, mNoPart, mPart, mSeq, mAsg, mAsg2, mCB, mCons, mNil, mVar, mC, mOp, mUn, pU, mTup, mLst, mRet, mRetN, mLstM, getl, setl, mName, mCall, mCallK, mIf, mIfS, mTest, mAnd, mOr, mNot, mYes, mAndV, mOrV, mNotV, mNext, mNever, mBreak, mCont, mDrop, mChain, mPar, mGTup, mGCons, mGNil, pGcd, pI, pI0, pIx, pTimes, pPlus, pEq, pNe, pLen, pSum, pMaxS, pAll, pAny, pTupOf, pLstOf, pIn, pIsB, pIsi, items_tup, items_lst, items_kl, items_mr, items_tab, items_lot, items_fr, decide_true, decide_false, eqP_int, eqP_bl, eqP_str, eqP_tup2, kit_tt, kit_ii, kit_ib, tyP, mEnd, wipeP, List.map_cons, List.map_nil, List.getElem?_cons_zero, List.getElem?_cons_succ, List.set_cons_zero, List.set_cons_succ, atI_zero, atI_one, if_true, if_false, ite_true, ite_false, Bool.false_eq_true, List.length_cons, List.length_nil, Bool.not_true, Bool.not_false, S__law_drawable]
  refine ⟨trivial, qs, t, rfl, hT, by omega, ?_⟩
  have hdue : decide (∀ q ∈ qs, q.den ∣ 2 ^ t) = true → ps = qs := fun h => near_only hT.one (of_decide_eq_true h) hN
  generalize hdb : decide (∀ q ∈ qs, q.den ∣ 2 ^ t) = due at hdue ⊢
  subst hR
  refine stm_of fun R hR => ?_
  simp only [mBits, mEnumC, pSortX, mDNewT, mZipM, mDc, mLenSetL, mDGetT, mDGet2T, mDInT, mDPutT, mLockX, mLockEX, mKeysX, pLstX, pLenX, pMaxT, pSortT, str_to, str_ot, mPar3, mLockV, mLockE, mItemsC, mKeysC, mDGet2, pIsN, isNonP, pRepLM, mTruD, dkOfP, pPopAt, pIndex, mLstRgM, mTruth, pReprA, pLenD, pLstD, mDNew, pRepL, mLenSetN, mDIn, mSortSet, mSortSetL, mRevT, mForC, mSeqC, mLcC, pAbs, pMax2, pMin2, pInt1, mDGet, mDPut, mBM, mBM0, pPop, pAppend, pExtend, pSetL, mSub, mDisp, mPs, mPs0, mRevL, mRevLM, pLstOfM, mTupRg, mRg1, mRg2, pPlusM, lstItems, dictOfP, keyP, keysP, val_left, val_mixed, val_draws, put_draws, mLc, mLcM, mLc2, mFor, mSeqI, mRng1, mRng2, mZip, mEnum, mSl, mNoPart, mPart, mSeq, mAsg, mAsg2, mCB, mCons, mNil, mVar, mC, mOp, mUn, pU, mTup, mLst, mRet, mRetN, mLstM, getl, setl, mName, mCall, mCallK, mIf, mIfS, mTest, mAnd, mOr, mNot, mYes, mAndV, mOrV, mNotV, mNext, mNever, mBreak, mCont, mDrop, mChain, mPar, mGTup, mGCons, mGNil, pGcd, pI, pI0, pIx, pTimes, pPlus, pEq, pNe, pLen, pSum, pMaxS, pAll, pAny, pTupOf, pLstOf, pIn, pIsB, pIsi, items_tup, items_lst, items_kl, items_mr, items_tab, items_lot, items_fr, decide_true, decide_false, eqP_int, eqP_bl, eqP_str, eqP_tup2, kit_tt, kit_ii, kit_ib, tyP, mEnd, wipeP, List.map_cons, List.map_nil, List.getElem?_cons_zero, List.getElem?_cons_succ, List.set_cons_zero, List.set_cons_succ, atI_zero, atI_one, if_true, if_false, ite_true, ite_false, Bool.false_eq_true, List.length_cons, List.length_nil, Bool.not_true, Bool.not_false, S_can_be_drawn]
  refine ⟨trivial, qs, t, rfl, hT.mono (by decide), trivial, rfl, qs, t, rfl, hT.mono (by decide), by decide, ?_⟩
  rw [hdb]
  refine pRepr_bb ⟨by decide, pRepr_bb ?_⟩
  simp only [eqP_str, decide_true, Bool.not_true, Bool.false_eq_true, if_false]
  have hgo : R [some (.mr 1), some (.tup (qs.map frP)), some (.int (t : Nat)), some (.tup (ps.map frP)), some (.bl due), none] μ := by
    subst hR
    refine stm_of fun R hR => ?_
    simp only [mBits, mEnumC, pSortX, mDNewT, mZipM, mDc, mLenSetL, mDGetT, mDGet2T, mDInT, mDPutT, mLockX, mLockEX, mKeysX, pLstX, pLenX, pMaxT, pSortT, str_to, str_ot, mPar3, mLockV, mLockE, mItemsC, mKeysC, mDGet2, pIsN, isNonP, pRepLM, mTruD, dkOfP, pPopAt, pIndex, mLstRgM, mTruth, pReprA, pLenD, pLstD, mDNew, pRepL, mLenSetN, mDIn, mSortSet, mSortSetL, mRevT, mForC, mSeqC, mLcC, pAbs, pMax2, pMin2, pInt1, mDGet, mDPut, mBM, mBM0, pPop, pAppend, pExtend, pSetL, mSub, mDisp, mPs, mPs0, mRevL, mRevLM, pLstOfM, mTupRg, mRg1, mRg2, pPlusM, lstItems, dictOfP, keyP, keysP, val_left, val_mixed, val_draws, put_draws, mLc, mLcM, mLc2, mFor, mSeqI, mRng1, mRng2, mZip, mEnum, mSl, mNoPart, mPart, mSeq, mAsg, mAsg2, mCB, mCons, mNil, mVar, mC, mOp, mUn, pU, mTup, mLst, mRet, mRetN, mLstM, getl, setl, mName, mCall, mCallK, mIf, mIfS, mTest, mAnd, mOr, mNot, mYes, mAndV, mOrV, mNotV, mNext, mNever, mBreak, mCont, mDrop, mChain, mPar, mGTup, mGCons, mGNil, pGcd, pI, pI0, pIx, pTimes, pPlus, pEq, pNe, pLen, pSum, pMaxS, pAll, pAny, pTupOf, pLstOf, pIn, pIsB, pIsi, items_tup, items_lst, items_kl, items_mr, items_tab, items_lot, items_fr, decide_true, decide_false, eqP_int, eqP_bl, eqP_str, eqP_tup2, kit_tt, kit_ii, kit_ib, tyP, mEnd, wipeP, List.map_cons, List.map_nil, List.getElem?_cons_zero, List.getElem?_cons_succ, List.set_cons_zero, List.set_cons_succ, atI_zero, atI_one, if_true, if_false, ite_true, ite_false, Bool.false_eq_true, List.length_cons, List.length_nil, Bool.not_true, Bool.not_false, S_nearest]
    obtain ⟨u, hu, htu, hu30⟩ : ∃ u : Nat, (if ((t : Nat) : Int) + 1 < 30 then ((t : Nat) : Int) + 1 else 30) = (u : Int) ∧ t ≤ u ∧ u ≤ 30 := by
      by_cases c : ((t : Nat) : Int) + 1 < 30
      · rw [if_pos c]; exact ⟨t + 1, by omega, by omega, by omega⟩
      · rw [if_neg c]; exact ⟨30, rfl, ht, by omega⟩
    rw [hu]
    refine ⟨trivial, rfl, qs, u, rfl, hT, by omega, fun vs hV => ?_⟩
    have hV2 := near_tab hV hT (by omega)
    have hle := near_le hV (oth_up hO htu)
    have hd2 := (dist_sm hV.len hT hV2).mono (show 44 + 44 + 2 ≤ 4000 by decide)
    subst hR
    simp only [mBits, mEnumC, pSortX, mDNewT, mZipM, mDc, mLenSetL, mDGetT, mDGet2T, mDInT, mDPutT, mLockX, mLockEX, mKeysX, pLstX, pLenX, pMaxT, pSortT, str_to, str_ot, mPar3, mLockV, mLockE, mItemsC, mKeysC, mDGet2, pIsN, isNonP, pRepLM, mTruD, dkOfP, pPopAt, pIndex, mLstRgM, mTruth, pReprA, pLenD, pLstD, mDNew, pRepL, mLenSetN, mDIn, mSortSet, mSortSetL, mRevT, mForC, mSeqC, mLcC, pAbs, pMax2, pMin2, pInt1, mDGet, mDPut, mBM, mBM0, pPop, pAppend, pExtend, pSetL, mSub, mDisp, mPs, mPs0, mRevL, mRevLM, pLstOfM, mTupRg, mRg1, mRg2, pPlusM, lstItems, dictOfP, keyP, keysP, val_left, val_mixed, val_draws, put_draws, mLc, mLcM, mLc2, mFor, mSeqI, mRng1, mRng2, mZip, mEnum, mSl, mNoPart, mPart, mSeq, mAsg, mAsg2, mCB, mCons, mNil, mVar, mC, mOp, mUn, pU, mTup, mLst, mRet, mRetN, mLstM, getl, setl, mName, mCall, mCallK, mIf, mIfS, mTest, mAnd, mOr, mNot, mYes, mAndV, mOrV, mNotV, mNext, mNever, mBreak, mCont, mDrop, mChain, mPar, mGTup, mGCons, mGNil, pGcd, pI, pI0, pIx, pTimes, pPlus, pEq, pNe, pLen, pSum, pMaxS, pAll, pAny, pTupOf, pLstOf, pIn, pIsB, pIsi, items_tup, items_lst, items_kl, items_mr, items_tab, items_lot, items_fr, decide_true, decide_false, eqP_int, eqP_bl, eqP_str, eqP_tup2, kit_tt, kit_ii, kit_ib, tyP, mEnd, wipeP, List.map_cons, List.map_nil, List.getElem?_cons_zero, List.getElem?_cons_succ, List.set_cons_zero, List.set_cons_succ, atI_zero, atI_one, if_true, if_false, ite_true, ite_false, Bool.false_eq_true, List.length_cons, List.length_nil, Bool.not_true, Bool.not_false, S__law_is_less, S__law_distance, S_nearest]
    refine ⟨trivial, 44, 44, qs, ps, rfl, hT, hP, by decide, hN.len, trivial, 44, 44, qs, vs, rfl, hT, hV2, by decide, hV.len, trivial, _, _, rfl, hd1.mono (by decide), hd2, ?_⟩
    rw [decide_eq_false (show ¬ d2 qs ps / 2 < d2 qs vs / 2 by grind), if_pos (by decide)]
    refine ⟨trivial, ps, t, rfl, hP, by omega, fun ws hW => ?_⟩
    have hw := near_only hP.one hwd hW
    subst hw
    refine pRepr_tab hP (by decide) (pRepr_tab hP (by decide) ?_)
    simp only [eqP_str, decide_true]
    exact fin_keep hQ
  cases due with
  | false => 
    rw [if_neg (by decide)]
    exact hgo
  | true =>
    rw [if_pos rfl]
    have he := hdue rfl
    subst he
    refine pRepr_tab hT (by decide) (pRepr_tab hT (by decide) ?_)
    simp only [eqP_str, decide_true, Bool.not_true, Bool.false_eq_true, if_false]
    exact hgo
abbrev N_law : List Str := ["_law_script", "_law_deck_here", "_law_bottoms", "_law_turn", "_law_table_here", "_law_t"]
theorem sc_law : FnScope N_law ["_law_script"] (defScope s_law) := ⟨rfl, rfl, rfl, by decide +kernel, rfl, by decide +kernel, by decide +kernel⟩
theorem ok_law (B : Blt mg) (h_law : Own K mg "law" s_law) (k__law_deck : Ok P w K mg base 1 "_law_deck" s__law_deck ["_law_script"] S__law_deck) (k__law_draw : Ok P w K mg base 1 "_law_draw" s__law_draw ["_law_deck_here", "_law_many"] S__law_draw) (k__law_table : Ok P w K mg base 3 "_law_table" s__law_table ["_law_deck_here", "_law_n", "_law_bottoms"] S__law_table) (k__law_is_right : Ok P w K mg base 9 "_law_is_right" s__law_is_right ["_law_deck_here", "_law_table_here", "_law_t"] S__law_is_right) (k__law_pick : Ok P w K mg base 2 "_law_pick" s__law_pick ["_law_deck_here", "_law_some"] S__law_pick) (k__law_beats_all : Ok P w K mg base 7 "_law_beats_all" s__law_beats_all ["_law_table_here", "_law_t", "_law_told"] S__law_beats_all) (k_nearest : Ok P w K mg base 7 "nearest" s_nearest ["table", "t"] S_nearest) : Ok P w K mg base 10 "law" s_law ["_law_script"] S_law := by
  obtain ⟨f_s, fd_s, F_s, g_s⟩ := h_law
  obtain ⟨f__law_deck, fd__law_deck, F__law_deck, g__law_deck, b__law_deck, G__law_deck⟩ := k__law_deck
  obtain ⟨f__law_draw, fd__law_draw, F__law_draw, g__law_draw, b__law_draw, G__law_draw⟩ := k__law_draw
  obtain ⟨f__law_table, fd__law_table, F__law_table, g__law_table, b__law_table, G__law_table⟩ := k__law_table
  obtain ⟨f__law_is_right, fd__law_is_right, F__law_is_right, g__law_is_right, b__law_is_right, G__law_is_right⟩ := k__law_is_right
  obtain ⟨f__law_pick, fd__law_pick, F__law_pick, g__law_pick, b__law_pick, G__law_pick⟩ := k__law_pick
  obtain ⟨f__law_beats_all, fd__law_beats_all, F__law_beats_all, g__law_beats_all, b__law_beats_all, G__law_beats_all⟩ := k__law_beats_all
  obtain ⟨f_nearest, fd_nearest, F_nearest, g_nearest, b_nearest, G_nearest⟩ := k_nearest
  refine ⟨f_s, fd_s, F_s, g_s, F_s.binds (fun _ _ _ _ _ _ us hl => match us, hl with | [_], _ => rfl), FnG.of F_s sc_law (fun xs μ Q h => by first | exact h.1 | exact h.2.1 | (obtain ⟨⟩ := h)) fun cdv A outer s H hr hgd => ⟨_, _, (pss_cons (ps_set (i := 1) sc_law.nd rfl (Or.inl rfl) (pe_callG (G__law_deck.mono (by decide)) hr hgd (by rfl) g__law_deck F__law_deck.kp b__law_deck (pa_cons (pv 0) pa_nil)))
 (pss_cons (ps_set (i := 2) sc_law.nd rfl (Or.inl rfl) (pe_lst (pa_cons pe_int (pa_cons pe_int (pa_cons pe_int (pa_cons pe_int (pa_cons pe_int (pa_cons pe_int (pa_cons pe_int (pa_cons pe_int (pa_cons pe_int (pa_cons pe_int (pa_cons (pe_op op_shlW pe_int (pe_op op_plus pe_int (pe_callG (G__law_draw.mono (by decide)) hr hgd (by rfl) g__law_draw F__law_draw.kp b__law_draw (pa_cons (pv 1) (pa_cons pe_int pa_nil))))) (pa_cons pe_int pa_nil))))))))))))))
 (pss_cons (ps_for PassesOwn.never rfl (pi_range1 (by rfl) (B "range" (by decide)) (pa_cons pe_int pa_nil)) (pg_name (i := 3) sc_law.nd rfl (Or.inl rfl))
 (pss_cons (ps_set (i := 4) sc_law.nd rfl (Or.inl rfl) (pe_callG (G__law_table.mono (by decide)) hr hgd (by rfl) g__law_table F__law_table.kp b__law_table (pa_cons (pv 1) (pa_cons (pe_op op_plus pe_int (pe_callG (G__law_draw.mono (by decide)) hr hgd (by rfl) g__law_draw F__law_draw.kp b__law_draw (pa_cons (pv 1) (pa_cons pe_int pa_nil)))) (pa_cons (pv 2) pa_nil)))))
 (pss_one (ps_if (pt_not (pt_val (pe_callG (G__law_is_right.mono (by decide)) hr hgd (by rfl) g__law_is_right F__law_is_right.kp b__law_is_right (pa_cons (pv 1) (pa_cons (pv 4) (pa_cons (pe_callG (G__law_pick.mono (by decide)) hr hgd (by rfl) g__law_pick F__law_pick.kp b__law_pick (pa_cons (pv 1) (pa_cons (pe_lst (pa_cons pe_int (pa_cons pe_int (pa_cons pe_int (pa_cons pe_int (pa_cons pe_int (pa_cons pe_int (pa_cons pe_int (pa_cons pe_int (pa_cons (pe_callG (G__law_draw.mono (by decide)) hr hgd (by rfl) g__law_draw F__law_draw.kp b__law_draw (pa_cons (pv 1) (pa_cons pe_int pa_nil))) pa_nil)))))))))) pa_nil))) pa_nil))))))
 (pss_one (ps_ret pe_bl))
 pss_nil))))
 (pss_cons (ps_par (i := 4) (j := 5) (by rfl) sc_law.nd rfl rfl (by decide) rfl rfl (pa_cons (pe_callG (G__law_table.mono (by decide)) hr hgd (by rfl) g__law_table F__law_table.kp b__law_table (pa_cons (pv 1) (pa_cons (pe_op op_plus pe_int (pe_callG (G__law_draw.mono (by decide)) hr hgd (by rfl) g__law_draw F__law_draw.kp b__law_draw (pa_cons (pv 1) (pa_cons pe_int pa_nil)))) (pa_cons (pe_lst (pa_cons pe_int (pa_cons pe_int (pa_cons pe_int (pa_cons pe_int (pa_cons pe_int (pa_cons pe_int (pa_cons pe_int (pa_cons pe_int pa_nil))))))))) pa_nil)))) (pa_cons (pe_op op_plus pe_int (pe_callG (G__law_draw.mono (by decide)) hr hgd (by rfl) g__law_draw F__law_draw.kp b__law_draw (pa_cons (pv 1) (pa_cons pe_int pa_nil)))) pa_nil)) (by rfl))
 (pss_cons (ps_set (i := 5) sc_law.nd rfl (Or.inl rfl) (pe_ifExp (pt_cmpR op_lt (pe_callB cb_len (by rfl) (B "len" (by decide)) (by decide +kernel) (pa_cons (pv 4) pa_nil)) pe_int (nomark _)) (pv 5) (pe_callB (cb_min2 rfl) (by rfl) (B "min" (by decide)) (by decide +kernel) (pa_cons (pv 5) (pa_cons pe_int pa_nil)))))
 (pss_one (ps_ret (pe_and (pe_callG (G__law_beats_all.mono (by decide)) hr hgd (by rfl) g__law_beats_all F__law_beats_all.kp b__law_beats_all (pa_cons (pv 4) (pa_cons (pv 5) (pa_cons (pe_callG (G_nearest.mono (by decide)) hr hgd (by rfl) g_nearest F_nearest.kp b_nearest (pa_cons (pv 4) (pa_cons (pv 5) pa_nil))) pa_nil)))) (pe_one (pe_callG (G__law_beats_all.mono (by decide)) hr hgd (by rfl) g__law_beats_all F__law_beats_all.kp b__law_beats_all (pa_cons (pv 4) (pa_cons pe_int (pa_cons (pe_callG (G_nearest.mono (by decide)) hr hgd (by rfl) g_nearest F_nearest.kp b_nearest (pa_cons (pv 4) (pa_cons pe_int pa_nil))) pa_nil))))))))))))), (by (try dsimp only [cxOf]); exact inferInstance), ?_⟩⟩
  intro xs μ Q hS
  obtain ⟨_, ns, rfl, rfl, hQ⟩ := hS
  rw [show startP N_law [.kl (ns.map PV.int)] = [some (.kl (ns.map PV.int)), none, none, none, none, none] from rfl]
  refine stm_of fun R1 hR1 => ?_
  simp only [mBits, mEnumC, pSortX, mDNewT, mZipM, mDc, mLenSetL, mDGetT, mDGet2T, mDInT, mDPutT, mLockX, mLockEX, mKeysX, pLstX, pLenX, pMaxT, pSortT, str_to, str_ot, mPar3, mLockV, mLockE, mItemsC, mKeysC, mDGet2, pIsN, isNonP, pRepLM, mTruD, dkOfP, pPopAt, pIndex, mLstRgM, mTruth, pReprA, pLenD, pLstD, mDNew, pRepL, mLenSetN, mDIn, mSortSet, mSortSetL, mRevT, mForC, mSeqC, mLcC, pAbs, pMax2, pMin2, pInt1, mDGet, mDPut, mBM, mBM0, pPop, pAppend, pExtend, pSetL, mSub, mDisp, mPs, mPs0, mRevL, mRevLM, pLstOfM, mTupRg, mRg1, mRg2, pPlusM, lstItems, dictOfP, keyP, keysP, val_left, val_mixed, val_draws, put_draws, mLc, mLcM, mLc2, mFor, mSeqI, mRng1, mRng2, mZip, mEnum, mSl, mNoPart, mPart, mSeq, mAsg, mAsg2, mCB, mCons, mNil, mVar, mC, mOp, mUn, pU, mTup, mLst, mRet, mRetN, mLstM, getl, setl, mName, mCall, mCallK, mIf, mIfS, mTest, mAnd, mOr, mNot, mYes, mAndV, mOrV, mNotV, mNext, mNever, mBreak, mCont, mDrop, mChain, mPar, mGTup, mGCons, mGNil, pGcd, pI, pI0, pIx, pTimes, pPlus, pEq, pNe, pLen, pSum, pMaxS, pAll, pAny, pTupOf, pLstOf, pIn, pIsB, pIsi, items_tup, items_lst, items_kl, items_mr, items_tab, items_lot, items_fr, decide_true, decide_false, eqP_int, eqP_bl, eqP_str, eqP_tup2, kit_tt, kit_ii, kit_ib, tyP, mEnd, wipeP, List.map_cons, List.map_nil, List.getElem?_cons_zero, List.getElem?_cons_succ, List.set_cons_zero, List.set_cons_succ, atI_zero, atI_one, if_true, if_false, ite_true, ite_false, Bool.false_eq_true, List.length_cons, List.length_nil, Bool.not_true, Bool.not_false, S__law_deck]
  refine ⟨trivial, ns, rfl, trivial, fun m μ1 D1 => ?_⟩
  subst hR1
  refine stm_of fun R2 hR2 => ?_
  simp only [mBits, mEnumC, pSortX, mDNewT, mZipM, mDc, mLenSetL, mDGetT, mDGet2T, mDInT, mDPutT, mLockX, mLockEX, mKeysX, pLstX, pLenX, pMaxT, pSortT, str_to, str_ot, mPar3, mLockV, mLockE, mItemsC, mKeysC, mDGet2, pIsN, isNonP, pRepLM, mTruD, dkOfP, pPopAt, pIndex, mLstRgM, mTruth, pReprA, pLenD, pLstD, mDNew, pRepL, mLenSetN, mDIn, mSortSet, mSortSetL, mRevT, mForC, mSeqC, mLcC, pAbs, pMax2, pMin2, pInt1, mDGet, mDPut, mBM, mBM0, pPop, pAppend, pExtend, pSetL, mSub, mDisp, mPs, mPs0, mRevL, mRevLM, pLstOfM, mTupRg, mRg1, mRg2, pPlusM, lstItems, dictOfP, keyP, keysP, val_left, val_mixed, val_draws, put_draws, mLc, mLcM, mLc2, mFor, mSeqI, mRng1, mRng2, mZip, mEnum, mSl, mNoPart, mPart, mSeq, mAsg, mAsg2, mCB, mCons, mNil, mVar, mC, mOp, mUn, pU, mTup, mLst, mRet, mRetN, mLstM, getl, setl, mName, mCall, mCallK, mIf, mIfS, mTest, mAnd, mOr, mNot, mYes, mAndV, mOrV, mNotV, mNext, mNever, mBreak, mCont, mDrop, mChain, mPar, mGTup, mGCons, mGNil, pGcd, pI, pI0, pIx, pTimes, pPlus, pEq, pNe, pLen, pSum, pMaxS, pAll, pAny, pTupOf, pLstOf, pIn, pIsB, pIsi, items_tup, items_lst, items_kl, items_mr, items_tab, items_lot, items_fr, decide_true, decide_false, eqP_int, eqP_bl, eqP_str, eqP_tup2, kit_tt, kit_ii, kit_ib, tyP, mEnd, wipeP, List.map_cons, List.map_nil, List.getElem?_cons_zero, List.getElem?_cons_succ, List.set_cons_zero, List.set_cons_succ, atI_zero, atI_one, if_true, if_false, ite_true, ite_false, Bool.false_eq_true, List.length_cons, List.length_nil, Bool.not_true, Bool.not_false, S__law_draw]
  refine ⟨trivial, 30, m, [], rfl, D1, by decide, by decide, fun z μ2 z0 z1 D2 => ?_⟩
  obtain ⟨z, rfl⟩ : ∃ i : Nat, z = (i : Int) := ⟨z.toNat, by omega⟩
  rw [show (1 : Int) + (z : Nat) = ((1 + z : Nat) : Int) by omega]
  obtain ⟨Bs, eB, hB0, hBl, hBb⟩ : ∃ Bs : List Nat, [PV.int 3, PV.int 5, PV.int 7, PV.int 10, PV.int 12, PV.int 16, PV.int 60, PV.int 999, PV.int 1000, PV.int 997, PV.int (1 * 2 ^ (((1 + z : Nat) : Int)).toNat), PV.int 64] = Bs.map (fun (b : Nat) => PV.int b) ∧ Bs ≠ [] ∧ Bs.length ≤ 1000 ∧ ∀ b ∈ Bs, 1 ≤ b ∧ b < 2 ^ 32 := by
    have e9 : (1 : Int) * 2 ^ (((1 + z : Nat) : Int)).toNat = ((2 ^ (1 + z) : Nat) : Int) := by rw [Int.one_mul, Int.toNat_natCast, Int.natCast_pow]; rfl
    rw [e9]
    have p0 := Nat.two_pow_pos (1 + z)
    have p1 : 2 ^ (1 + z) < 2 ^ 32 := Nat.pow_lt_pow_right (by decide) (by omega)
    refine ⟨[3, 5, 7, 10, 12, 16, 60, 999, 1000, 997, 2 ^ (1 + z), 64], rfl, by simp, by simp, fun b hb => ?_⟩
    simp only [List.mem_cons, List.not_mem_nil, or_false] at hb
    omega
  rw [eB]
  refine ⟨shl_ok (n := 1) (by decide) (by omega), by decide, ?_⟩
  subst hR2
  refine stm_of fun R3 hR3 => ?_
  simp only [mBits, mEnumC, pSortX, mDNewT, mZipM, mDc, mLenSetL, mDGetT, mDGet2T, mDInT, mDPutT, mLockX, mLockEX, mKeysX, pLstX, pLenX, pMaxT, pSortT, str_to, str_ot, mPar3, mLockV, mLockE, mItemsC, mKeysC, mDGet2, pIsN, isNonP, pRepLM, mTruD, dkOfP, pPopAt, pIndex, mLstRgM, mTruth, pReprA, pLenD, pLstD, mDNew, pRepL, mLenSetN, mDIn, mSortSet, mSortSetL, mRevT, mForC, mSeqC, mLcC, pAbs, pMax2, pMin2, pInt1, mDGet, mDPut, mBM, mBM0, pPop, pAppend, pExtend, pSetL, mSub, mDisp, mPs, mPs0, mRevL, mRevLM, pLstOfM, mTupRg, mRg1, mRg2, pPlusM, lstItems, dictOfP, keyP, keysP, val_left, val_mixed, val_draws, put_draws, mLc, mLcM, mLc2, mFor, mSeqI, mRng1, mRng2, mZip, mEnum, mSl, mNoPart, mPart, mSeq, mAsg, mAsg2, mCB, mCons, mNil, mVar, mC, mOp, mUn, pU, mTup, mLst, mRet, mRetN, mLstM, getl, setl, mName, mCall, mCallK, mIf, mIfS, mTest, mAnd, mOr, mNot, mYes, mAndV, mOrV, mNotV, mNext, mNever, mBreak, mCont, mDrop, mChain, mPar, mGTup, mGCons, mGNil, pGcd, pI, pI0, pIx, pTimes, pPlus, pEq, pNe, pLen, pSum, pMaxS, pAll, pAny, pTupOf, pLstOf, pIn, pIsB, pIsi, items_tup, items_lst, items_kl, items_mr, items_tab, items_lot, items_fr, decide_true, decide_false, eqP_int, eqP_bl, eqP_str, eqP_tup2, kit_tt, kit_ii, kit_ib, tyP, mEnd, wipeP, List.map_cons, List.map_nil, List.getElem?_cons_zero, List.getElem?_cons_succ, List.set_cons_zero, List.set_cons_succ, atI_zero, atI_one, if_true, if_false, ite_true, ite_false, Bool.false_eq_true, List.length_cons, List.length_nil, Bool.not_true, Bool.not_false]
  rw [show (Int.toNat 5) = 5 from rfl, rangeP_eq]
  refine ⟨by decide, for_inv (enc := fun (i : Nat) => PV.int i) (fun pre ρ μ' => (∃ (g : Store) (y3 y4 : Option PV), ρ = [some (.kl (ns.map PV.int)), some (.mr 1), some (.lst (Bs.map fun (b : Nat) => PV.int b)), y3, y4, none] ∧ Dk m g μ')) (done := []) ⟨[], _, _, rfl, D2⟩ (fun pre i post ρ μ3 e hI N hN => ?_) fun ρ μ3 hI => ?_⟩
  · obtain ⟨g, y3, y4, rfl, D3⟩ := hI
    refine stm_of fun R4 hR4 => ?_
    simp only [mBits, mEnumC, pSortX, mDNewT, mZipM, mDc, mLenSetL, mDGetT, mDGet2T, mDInT, mDPutT, mLockX, mLockEX, mKeysX, pLstX, pLenX, pMaxT, pSortT, str_to, str_ot, mPar3, mLockV, mLockE, mItemsC, mKeysC, mDGet2, pIsN, isNonP, pRepLM, mTruD, dkOfP, pPopAt, pIndex, mLstRgM, mTruth, pReprA, pLenD, pLstD, mDNew, pRepL, mLenSetN, mDIn, mSortSet, mSortSetL, mRevT, mForC, mSeqC, mLcC, pAbs, pMax2, pMin2, pInt1, mDGet, mDPut, mBM, mBM0, pPop, pAppend, pExtend, pSetL, mSub, mDisp, mPs, mPs0, mRevL, mRevLM, pLstOfM, mTupRg, mRg1, mRg2, pPlusM, lstItems, dictOfP, keyP, keysP, val_left, val_mixed, val_draws, put_draws, mLc, mLcM, mLc2, mFor, mSeqI, mRng1, mRng2, mZip, mEnum, mSl, mNoPart, mPart, mSeq, mAsg, mAsg2, mCB, mCons, mNil, mVar, mC, mOp, mUn, pU, mTup, mLst, mRet, mRetN, mLstM, getl, setl, mName, mCall, mCallK, mIf, mIfS, mTest, mAnd, mOr, mNot, mYes, mAndV, mOrV, mNotV, mNext, mNever, mBreak, mCont, mDrop, mChain, mPar, mGTup, mGCons, mGNil, pGcd, pI, pI0, pIx, pTimes, pPlus, pEq, pNe, pLen, pSum, pMaxS, pAll, pAny, pTupOf, pLstOf, pIn, pIsB, pIsi, items_tup, items_lst, items_kl, items_mr, items_tab, items_lot, items_fr, decide_true, decide_false, eqP_int, eqP_bl, eqP_str, eqP_tup2, kit_tt, kit_ii, kit_ib, tyP, mEnd, wipeP, List.map_cons, List.map_nil, List.getElem?_cons_zero, List.getElem?_cons_succ, List.set_cons_zero, List.set_cons_succ, atI_zero, atI_one, if_true, if_false, ite_true, ite_false, Bool.false_eq_true, List.length_cons, List.length_nil, Bool.not_true, Bool.not_false, S__law_draw, S__law_table]
    refine ⟨trivial, 8, m, g, rfl, D3, by decide, by decide, fun n μ4 n0 n1 D4 => ?_⟩
    obtain ⟨n, rfl⟩ : ∃ i : Nat, n = (i : Int) := ⟨n.toNat, by omega⟩
    rw [show (1 : Int) + (n : Nat) = ((1 + n : Nat) : Int) by omega]
    refine ⟨trivial, 1 + n, 32, m, g, _, Bs, rfl, rfl, D4, by omega, by omega, by decide, hB0, hBl, hBb, fun qs g' μ5 hT hl D5 => ?_⟩
    subst hR4
    simp only [mBits, mEnumC, pSortX, mDNewT, mZipM, mDc, mLenSetL, mDGetT, mDGet2T, mDInT, mDPutT, mLockX, mLockEX, mKeysX, pLstX, pLenX, pMaxT, pSortT, str_to, str_ot, mPar3, mLockV, mLockE, mItemsC, mKeysC, mDGet2, pIsN, isNonP, pRepLM, mTruD, dkOfP, pPopAt, pIndex, mLstRgM, mTruth, pReprA, pLenD, pLstD, mDNew, pRepL, mLenSetN, mDIn, mSortSet, mSortSetL, mRevT, mForC, mSeqC, mLcC, pAbs, pMax2, pMin2, pInt1, mDGet, mDPut, mBM, mBM0, pPop, pAppend, pExtend, pSetL, mSub, mDisp, mPs, mPs0, mRevL, mRevLM, pLstOfM, mTupRg, mRg1, mRg2, pPlusM, lstItems, dictOfP, keyP, keysP, val_left, val_mixed, val_draws, put_draws, mLc, mLcM, mLc2, mFor, mSeqI, mRng1, mRng2, mZip, mEnum, mSl, mNoPart, mPart, mSeq, mAsg, mAsg2, mCB, mCons, mNil, mVar, mC, mOp, mUn, pU, mTup, mLst, mRet, mRetN, mLstM, getl, setl, mName, mCall, mCallK, mIf, mIfS, mTest, mAnd, mOr, mNot, mYes, mAndV, mOrV, mNotV, mNext, mNever, mBreak, mCont, mDrop, mChain, mPar, mGTup, mGCons, mGNil, pGcd, pI, pI0, pIx, pTimes, pPlus, pEq, pNe, pLen, pSum, pMaxS, pAll, pAny, pTupOf, pLstOf, pIn, pIsB, pIsi, items_tup, items_lst, items_kl, items_mr, items_tab, items_lot, items_fr, decide_true, decide_false, eqP_int, eqP_bl, eqP_str, eqP_tup2, kit_tt, kit_ii, kit_ib, tyP, mEnd, wipeP, List.map_cons, List.map_nil, List.getElem?_cons_zero, List.getElem?_cons_succ, List.set_cons_zero, List.set_cons_succ, atI_zero, atI_one, if_true, if_false, ite_true, ite_false, Bool.false_eq_true, List.length_cons, List.length_nil, Bool.not_true, Bool.not_false, S__law_draw, S__law_pick, S__law_is_right]
    refine ⟨trivial, 31, m, g ++ g', rfl, D5, by decide, by decide, fun y μ6 y0 y1 D6 => ?_⟩
    obtain ⟨y, rfl⟩ : ∃ i : Nat, y = (i : Int) := ⟨y.toNat, by omega⟩
    refine ⟨by decide, trivial, _, ([0, 1, 2, 3, 5, 8, 12, 30, y].map fun (i : Nat) => PV.int i), m, g ++ g', rfl, .inl rfl, D6, by simp, by simp, fun v hv μ7 D7 => ?_⟩
    obtain ⟨t, ht, rfl⟩ := List.mem_map.mp hv
    have ht30 : t ≤ 30 := by
      simp only [List.mem_cons, List.not_mem_nil, or_false] at ht
      omega
    refine ⟨trivial, qs, t, rfl, hT.mono (by decide), ht30, ?_⟩
    exact hN _ _ ⟨_, _, _, rfl, D7⟩
  · obtain ⟨g, y3, y4, rfl, D3⟩ := hI
    show R3 _ _
    subst hR3
    refine stm_of fun R4 hR4 => ?_
    simp only [mBits, mEnumC, pSortX, mDNewT, mZipM, mDc, mLenSetL, mDGetT, mDGet2T, mDInT, mDPutT, mLockX, mLockEX, mKeysX, pLstX, pLenX, pMaxT, pSortT, str_to, str_ot, mPar3, mLockV, mLockE, mItemsC, mKeysC, mDGet2, pIsN, isNonP, pRepLM, mTruD, dkOfP, pPopAt, pIndex, mLstRgM, mTruth, pReprA, pLenD, pLstD, mDNew, pRepL, mLenSetN, mDIn, mSortSet, mSortSetL, mRevT, mForC, mSeqC, mLcC, pAbs, pMax2, pMin2, pInt1, mDGet, mDPut, mBM, mBM0, pPop, pAppend, pExtend, pSetL, mSub, mDisp, mPs, mPs0, mRevL, mRevLM, pLstOfM, mTupRg, mRg1, mRg2, pPlusM, lstItems, dictOfP, keyP, keysP, val_left, val_mixed, val_draws, put_draws, mLc, mLcM, mLc2, mFor, mSeqI, mRng1, mRng2, mZip, mEnum, mSl, mNoPart, mPart, mSeq, mAsg, mAsg2, mCB, mCons, mNil, mVar, mC, mOp, mUn, pU, mTup, mLst, mRet, mRetN, mLstM, getl, setl, mName, mCall, mCallK, mIf, mIfS, mTest, mAnd, mOr, mNot, mYes, mAndV, mOrV, mNotV, mNext, mNever, mBreak, mCont, mDrop, mChain, mPar, mGTup, mGCons, mGNil, pGcd, pI, pI0, pIx, pTimes, pPlus, pEq, pNe, pLen, pSum, pMaxS, pAll, pAny, pTupOf, pLstOf, pIn, pIsB, pIsi, items_tup, items_lst, items_kl, items_mr, items_tab, items_lot, items_fr, decide_true, decide_false, eqP_int, eqP_bl, eqP_str, eqP_tup2, kit_tt, kit_ii, kit_ib, tyP, mEnd, wipeP, List.map_cons, List.map_nil, List.getElem?_cons_zero, List.getElem?_cons_succ, List.set_cons_zero, List.set_cons_succ, atI_zero, atI_one, if_true, if_false, ite_true, ite_false, Bool.false_eq_true, List.length_cons, List.length_nil, Bool.not_true, Bool.not_false, S__law_draw, S__law_table]
    refine ⟨trivial, 3, m, g, rfl, D3, by decide, by decide, fun n μ4 n0 n1 D4 => ?_⟩
    obtain ⟨n, rfl⟩ : ∃ i : Nat, n = (i : Int) := ⟨n.toNat, by omega⟩
    rw [show (2 : Int) + (n : Nat) = ((2 + n : Nat) : Int) by omega]
    refine ⟨by decide, trivial, 2 + n, 7, m, g, _, [3, 5, 6, 7, 8, 12, 20, 100], rfl, rfl, D4, by omega, by omega, by decide, by decide, by decide, by decide, fun qs g' μ5 hT hl D5 => ?_⟩
    refine ⟨trivial, 3, m, _, rfl, D5, by decide, by decide, fun t μ6 t0 t1 D6 => ?_⟩
    obtain ⟨t, rfl⟩ : ∃ i : Nat, t = (i : Int) := ⟨t.toNat, by omega⟩
    rw [show (1 : Int) + (t : Nat) = ((1 + t : Nat) : Int) by omega]
    subst hR4
    refine stm_of fun R5 hR5 => ?_
    simp only [mBits, mEnumC, pSortX, mDNewT, mZipM, mDc, mLenSetL, mDGetT, mDGet2T, mDInT, mDPutT, mLockX, mLockEX, mKeysX, pLstX, pLenX, pMaxT, pSortT, str_to, str_ot, mPar3, mLockV, mLockE, mItemsC, mKeysC, mDGet2, pIsN, isNonP, pRepLM, mTruD, dkOfP, pPopAt, pIndex, mLstRgM, mTruth, pReprA, pLenD, pLstD, mDNew, pRepL, mLenSetN, mDIn, mSortSet, mSortSetL, mRevT, mForC, mSeqC, mLcC, pAbs, pMax2, pMin2, pInt1, mDGet, mDPut, mBM, mBM0, pPop, pAppend, pExtend, pSetL, mSub, mDisp, mPs, mPs0, mRevL, mRevLM, pLstOfM, mTupRg, mRg1, mRg2, pPlusM, lstItems, dictOfP, keyP, keysP, val_left, val_mixed, val_draws, put_draws, mLc, mLcM, mLc2, mFor, mSeqI, mRng1, mRng2, mZip, mEnum, mSl, mNoPart, mPart, mSeq, mAsg, mAsg2, mCB, mCons, mNil, mVar, mC, mOp, mUn, pU, mTup, mLst, mRet, mRetN, mLstM, getl, setl, mName, mCall, mCallK, mIf, mIfS, mTest, mAnd, mOr, mNot, mYes, mAndV, mOrV, mNotV, mNext, mNever, mBreak, mCont, mDrop, mChain, mPar, mGTup, mGCons, mGNil, pGcd, pI, pI0, pIx, pTimes, pPlus, pEq, pNe, pLen, pSum, pMaxS, pAll, pAny, pTupOf, pLstOf, pIn, pIsB, pIsi, items_tup, items_lst, items_kl, items_mr, items_tab, items_lot, items_fr, decide_true, decide_false, eqP_int, eqP_bl, eqP_str, eqP_tup2, kit_tt, kit_ii, kit_ib, tyP, mEnd, wipeP, List.map_cons, List.map_nil, List.getElem?_cons_zero, List.getElem?_cons_succ, List.set_cons_zero, List.set_cons_succ, atI_zero, atI_one, if_true, if_false, ite_true, ite_false, Bool.false_eq_true, List.length_cons, List.length_nil, Bool.not_true, Bool.not_false, tabP, List.length_map]
    have hT44 : Tab 44 qs := hT.mono (by decide)
    have hgo : ∀ s : Nat, s ≤ 3 → R5 [some (.kl (ns.map PV.int)), some (.mr 1), some (.lst (Bs.map fun (b : Nat) => PV.int b)), y3, some (.tup (qs.map frP)), some (.int (s : Nat))] μ6 := fun s hs => by
      subst hR5
      simp only [mBits, mEnumC, pSortX, mDNewT, mZipM, mDc, mLenSetL, mDGetT, mDGet2T, mDInT, mDPutT, mLockX, mLockEX, mKeysX, pLstX, pLenX, pMaxT, pSortT, str_to, str_ot, mPar3, mLockV, mLockE, mItemsC, mKeysC, mDGet2, pIsN, isNonP, pRepLM, mTruD, dkOfP, pPopAt, pIndex, mLstRgM, mTruth, pReprA, pLenD, pLstD, mDNew, pRepL, mLenSetN, mDIn, mSortSet, mSortSetL, mRevT, mForC, mSeqC, mLcC, pAbs, pMax2, pMin2, pInt1, mDGet, mDPut, mBM, mBM0, pPop, pAppend, pExtend, pSetL, mSub, mDisp, mPs, mPs0, mRevL, mRevLM, pLstOfM, mTupRg, mRg1, mRg2, pPlusM, lstItems, dictOfP, keyP, keysP, val_left, val_mixed, val_draws, put_draws, mLc, mLcM, mLc2, mFor, mSeqI, mRng1, mRng2, mZip, mEnum, mSl, mNoPart, mPart, mSeq, mAsg, mAsg2, mCB, mCons, mNil, mVar, mC, mOp, mUn, pU, mTup, mLst, mRet, mRetN, mLstM, getl, setl, mName, mCall, mCallK, mIf, mIfS, mTest, mAnd, mOr, mNot, mYes, mAndV, mOrV, mNotV, mNext, mNever, mBreak, mCont, mDrop, mChain, mPar, mGTup, mGCons, mGNil, pGcd, pI, pI0, pIx, pTimes, pPlus, pEq, pNe, pLen, pSum, pMaxS, pAll, pAny, pTupOf, pLstOf, pIn, pIsB, pIsi, items_tup, items_lst, items_kl, items_mr, items_tab, items_lot, items_fr, decide_true, decide_false, eqP_int, eqP_bl, eqP_str, eqP_tup2, kit_tt, kit_ii, kit_ib, tyP, mEnd, wipeP, List.map_cons, List.map_nil, List.getElem?_cons_zero, List.getElem?_cons_succ, List.set_cons_zero, List.set_cons_succ, atI_zero, atI_one, if_true, if_false, ite_true, ite_false, Bool.false_eq_true, List.length_cons, List.length_nil, Bool.not_true, Bool.not_false, S_nearest, S__law_beats_all]
      refine ⟨trivial, qs, s, rfl, hT44, by omega, fun ps hN => ?_⟩
      refine ⟨trivial, qs, ps, s, rfl, hT44, by omega, hs, hN, near_tab hN hT44 (by omega), ?_⟩
      refine ⟨trivial, qs, 0, rfl, hT44, by decide, fun vs hV => ⟨trivial, qs, vs, 0, rfl, hT44, by omega, by decide, hV, near_tab hV hT44 (by decide), fin_keep (hQ _)⟩⟩
    split
    · exact hgo (1 + t) (by omega)
    · obtain ⟨s, hs, hs3⟩ : ∃ s : Nat, (if (2 : Int) < ((1 + t : Nat) : Int) then 2 else ((1 + t : Nat) : Int)) = (s : Int) ∧ s ≤ 3 := by
        split
        · exact ⟨2, rfl, by decide⟩
        · exact ⟨1 + t, rfl, by omega⟩
      rw [hs]
      exact hgo s hs3
theorem all_ok (B : Blt mg) (o__law_deck : Own K mg "_law_deck" s__law_deck) (o__law_draw : Own K mg "_law_draw" s__law_draw) (o__law_common : Own K mg "_law_common" s__law_common) (o__law_is_less : Own K mg "_law_is_less" s__law_is_less) (o_is_integer : Own K mg "is_integer" s_is_integer) (o_lowest : Own K mg "lowest" s_lowest) (o_is_power_of_two : Own K mg "is_power_of_two" s_is_power_of_two) (o_is_above : Own K mg "is_above" s_is_above) (o__law_is_integer : Own K mg "_law_is_integer" s__law_is_integer) (o__law_pick : Own K mg "_law_pick" s__law_pick) (o__law_fraction : Own K mg "_law_fraction" s__law_fraction) (o_is_fraction : Own K mg "is_fraction" s_is_fraction) (o_added : Own K mg "added" s_added) (o_is_number : Own K mg "is_number" s_is_number) (o_is_within_bits : Own K mg "is_within_bits" s_is_within_bits) (o__law_is_fraction : Own K mg "_law_is_fraction" s__law_is_fraction) (o_divided : Own K mg "divided" s_divided) (o_apart : Own K mg "apart" s_apart) (o__law_table : Own K mg "_law_table" s__law_table) (o__law_over : Own K mg "_law_over" s__law_over) (o__law_plus : Own K mg "_law_plus" s__law_plus) (o__law_minus : Own K mg "_law_minus" s__law_minus) (o__law_whole_parts : Own K mg "_law_whole_parts" s__law_whole_parts) (o_is_amount : Own K mg "is_amount" s_is_amount) (o_total : Own K mg "total" s_total) (o_check_number : Own K mg "check_number" s_check_number) (o_nearest_to : Own K mg "nearest_to" s_nearest_to) (o__law_distance : Own K mg "_law_distance" s__law_distance) (o__law_greatest : Own K mg "_law_greatest" s__law_greatest) (o__law_is_nearest : Own K mg "_law_is_nearest" s__law_is_nearest) (o_are_amounts : Own K mg "are_amounts" s_are_amounts) (o__law_drawable : Own K mg "_law_drawable" s__law_drawable) (o__law_total : Own K mg "_law_total" s__law_total) (o_amount_apart : Own K mg "amount_apart" s_amount_apart) (o_is_table : Own K mg "is_table" s_is_table) (o__law_is_table : Own K mg "_law_is_table" s__law_is_table) (o__law_least_distance : Own K mg "_law_least_distance" s__law_least_distance) (o__law_parted : Own K mg "_law_parted" s__law_parted) (o_check_table : Own K mg "check_table" s_check_table) (o__law_beats_all : Own K mg "_law_beats_all" s__law_beats_all) (o_nearest : Own K mg "nearest" s_nearest) (o_can_be_drawn : Own K mg "can_be_drawn" s_can_be_drawn) (o_check_pair : Own K mg "check_pair" s_check_pair) (o_distance : Own K mg "distance" s_distance) (o__law_is_right : Own K mg "_law_is_right" s__law_is_right) (o_law : Own K mg "law" s_law) (i_gcd : mg "gcd" = some (.builtin "math.gcd")) {t_MOST_OUTCOMES : Tok} (c_MOST_OUTCOMES : mg "MOST_OUTCOMES" = some (.int 8 t_MOST_OUTCOMES)) : Ok P w K mg base 10 "law" s_law ["_law_script"] S_law := by
  have k__law_deck : Ok P w K mg base 1 "_law_deck" s__law_deck ["_law_script"] S__law_deck := ok__law_deck B o__law_deck 
  have k__law_draw : Ok P w K mg base 1 "_law_draw" s__law_draw ["_law_deck_here", "_law_many"] S__law_draw := ok__law_draw B o__law_draw 
  have k__law_common : Ok P w K mg base 1 "_law_common" s__law_common ["_law_one", "_law_other"] S__law_common := ok__law_common B o__law_common 
  have k__law_is_less : Ok P w K mg base 1 "_law_is_less" s__law_is_less ["_law_one", "_law_other"] S__law_is_less := ok__law_is_less B o__law_is_less 
  have k_is_integer : Ok P w K mg base 1 "is_integer" s_is_integer ["thing"] S_is_integer := ok_is_integer B o_is_integer 
  have k_lowest : Ok P w K mg base 1 "lowest" s_lowest ["top", "bottom"] S_lowest := ok_lowest B o_lowest i_gcd
  have k_is_power_of_two : Ok P w K mg base 1 "is_power_of_two" s_is_power_of_two ["number"] S_is_power_of_two := ok_is_power_of_two B o_is_power_of_two 
  have k_is_above : Ok P w K mg base 1 "is_above" s_is_above ["one", "other"] S_is_above := ok_is_above B o_is_above 
  have k__law_is_integer : Ok P w K mg base 1 "_law_is_integer" s__law_is_integer ["_law_thing"] S__law_is_integer := ok__law_is_integer B o__law_is_integer 
  have k__law_pick : Ok P w K mg base 2 "_law_pick" s__law_pick ["_law_deck_here", "_law_some"] S__law_pick := ok__law_pick B o__law_pick k__law_draw
  have k__law_fraction : Ok P w K mg base 2 "_law_fraction" s__law_fraction ["_law_top", "_law_bottom"] S__law_fraction := ok__law_fraction B o__law_fraction k__law_common
  have k_is_fraction : Ok P w K mg base 2 "is_fraction" s_is_fraction ["thing"] S_is_fraction := ok_is_fraction B o_is_fraction k_is_integer i_gcd
  have k_added : Ok P w K mg base 2 "added" s_added ["one", "other"] S_added := ok_added B o_added k_lowest
  have k_is_number : Ok P w K mg base 2 "is_number" s_is_number ["thing"] S_is_number := ok_is_number B o_is_number k_is_integer
  have k_is_within_bits : Ok P w K mg base 2 "is_within_bits" s_is_within_bits ["table", "t"] S_is_within_bits := ok_is_within_bits B o_is_within_bits k_is_power_of_two
  have k__law_is_fraction : Ok P w K mg base 2 "_law_is_fraction" s__law_is_fraction ["_law_thing"] S__law_is_fraction := ok__law_is_fraction B o__law_is_fraction k__law_is_integer k__law_common
  have k_divided : Ok P w K mg base 2 "divided" s_divided ["one", "other"] S_divided := ok_divided B o_divided k_lowest
  have k_apart : Ok P w K mg base 2 "apart" s_apart ["one", "other"] S_apart := ok_apart B o_apart k_lowest
  have k__law_table : Ok P w K mg base 3 "_law_table" s__law_table ["_law_deck_here", "_law_n", "_law_bottoms"] S__law_table := ok__law_table B o__law_table k__law_pick k__law_draw k__law_fraction
  have k__law_over : Ok P w K mg base 3 "_law_over" s__law_over ["_law_one", "_law_other"] S__law_over := ok__law_over B o__law_over k__law_fraction
  have k__law_plus : Ok P w K mg base 3 "_law_plus" s__law_plus ["_law_one", "_law_other"] S__law_plus := ok__law_plus B o__law_plus k__law_fraction
  have k__law_minus : Ok P w K mg base 3 "_law_minus" s__law_minus ["_law_one", "_law_other"] S__law_minus := ok__law_minus B o__law_minus k__law_fraction
  have k__law_whole_parts : Ok P w K mg base 3 "_law_whole_parts" s__law_whole_parts ["_law_table_here", "_law_t"] S__law_whole_parts := ok__law_whole_parts B o__law_whole_parts k__law_fraction
  have k_is_amount : Ok P w K mg base 3 "is_amount" s_is_amount ["thing"] S_is_amount := ok_is_amount B o_is_amount k_is_fraction
  have k_total : Ok P w K mg base 3 "total" s_total ["fractions"] S_total := ok_total B o_total k_added
  have k_check_number : Ok P w K mg base 3 "check_number" s_check_number ["k"] S_check_number := ok_check_number B o_check_number k_is_number
  have k_nearest_to : Ok P w K mg base 3 "nearest_to" s_nearest_to ["table", "t"] S_nearest_to := ok_nearest_to B o_nearest_to k_is_within_bits k_lowest k_is_above
  have k__law_distance : Ok P w K mg base 4 "_law_distance" s__law_distance ["_law_one", "_law_other"] S__law_distance := ok__law_distance B o__law_distance k__law_plus k__law_is_less k__law_minus k__law_over
  have k__law_greatest : Ok P w K mg base 4 "_law_greatest" s__law_greatest ["_law_one", "_law_other"] S__law_greatest := ok__law_greatest B o__law_greatest k__law_is_less k__law_minus
  have k__law_is_nearest : Ok P w K mg base 4 "_law_is_nearest" s__law_is_nearest ["_law_table_here", "_law_t", "_law_other"] S__law_is_nearest := ok__law_is_nearest B o__law_is_nearest k__law_whole_parts k__law_is_less
  have k_are_amounts : Ok P w K mg base 4 "are_amounts" s_are_amounts ["thing", "many"] S_are_amounts := ok_are_amounts B o_are_amounts k_is_amount
  have k__law_drawable : Ok P w K mg base 4 "_law_drawable" s__law_drawable ["_law_table_here", "_law_t"] S__law_drawable := ok__law_drawable B o__law_drawable k__law_whole_parts
  have k__law_total : Ok P w K mg base 4 "_law_total" s__law_total ["_law_some"] S__law_total := ok__law_total B o__law_total k__law_plus
  have k_amount_apart : Ok P w K mg base 4 "amount_apart" s_amount_apart ["table", "other"] S_amount_apart := ok_amount_apart B o_amount_apart k_total k_apart k_divided
  have k_is_table : Ok P w K mg base 5 "is_table" s_is_table ["thing"] S_is_table := ok_is_table B o_is_table k_total k_are_amounts c_MOST_OUTCOMES
  have k__law_is_table : Ok P w K mg base 5 "_law_is_table" s__law_is_table ["_law_thing"] S__law_is_table := ok__law_is_table B o__law_is_table k__law_is_fraction k__law_total
  have k__law_least_distance : Ok P w K mg base 5 "_law_least_distance" s__law_least_distance ["_law_table_here", "_law_t"] S__law_least_distance := ok__law_least_distance B o__law_least_distance k__law_whole_parts k__law_total k__law_minus k__law_over
  have k__law_parted : Ok P w K mg base 6 "_law_parted" s__law_parted ["_law_parts", "_law_n"] S__law_parted := ok__law_parted B o__law_parted 
  have k_check_table : Ok P w K mg base 6 "check_table" s_check_table ["table"] S_check_table := ok_check_table B o_check_table k_is_table
  have k__law_beats_all : Ok P w K mg base 7 "_law_beats_all" s__law_beats_all ["_law_table_here", "_law_t", "_law_told"] S__law_beats_all := ok__law_beats_all B o__law_beats_all k__law_greatest k__law_distance k__law_parted k__law_fraction k__law_is_less k__law_is_nearest
  have k_nearest : Ok P w K mg base 7 "nearest" s_nearest ["table", "t"] S_nearest := ok_nearest B o_nearest k_check_table k_check_number k_nearest_to
  have k_can_be_drawn : Ok P w K mg base 7 "can_be_drawn" s_can_be_drawn ["table", "t"] S_can_be_drawn := ok_can_be_drawn B o_can_be_drawn k_check_table k_check_number k_is_within_bits
  have k_check_pair : Ok P w K mg base 7 "check_pair" s_check_pair ["table", "other"] S_check_pair := ok_check_pair B o_check_pair k_check_table
  have k_distance : Ok P w K mg base 8 "distance" s_distance ["table", "other"] S_distance := ok_distance B o_distance k_check_pair k_amount_apart
  have k__law_is_right : Ok P w K mg base 9 "_law_is_right" s__law_is_right ["_law_deck_here", "_law_table_here", "_law_t"] S__law_is_right := ok__law_is_right B o__law_is_right k_nearest k__law_is_nearest k__law_drawable k__law_is_table k_can_be_drawn k_distance k__law_least_distance k__law_is_less k__law_distance
  have k_law : Ok P w K mg base 10 "law" s_law ["_law_script"] S_law := ok_law B o_law k__law_deck k__law_draw k__law_table k__law_is_right k__law_pick k__law_beats_all k_nearest
  exact k_law
end
end K47
namespace K47
open PySem PySem.Spec PyProof.Rows L2 RZ Fx MR
theorem all_mk {P : Program} {w : World} {K : PySem.W.Frag} {h : Heap} {mg : Str → Option Value} {fa : Addr} (X : K.In h) (G : h.Ns mainGlobals mg) (hfa : mg "law" = some (.ref fa))
    (o__law_deck : Own K mg "_law_deck" s__law_deck)
    (o__law_draw : Own K mg "_law_draw" s__law_draw)
    (o__law_common : Own K mg "_law_common" s__law_common)
    (o__law_is_less : Own K mg "_law_is_less" s__law_is_less)
    (o_is_integer : Own K mg "is_integer" s_is_integer)
    (o_lowest : Own K mg "lowest" s_lowest)
    (o_is_power_of_two : Own K mg "is_power_of_two" s_is_power_of_two)
    (o_is_above : Own K mg "is_above" s_is_above)
    (o__law_is_integer : Own K mg "_law_is_integer" s__law_is_integer)
    (o__law_pick : Own K mg "_law_pick" s__law_pick)
    (o__law_fraction : Own K mg "_law_fraction" s__law_fraction)
    (o_is_fraction : Own K mg "is_fraction" s_is_fraction)
    (o_added : Own K mg "added" s_added)
    (o_is_number : Own K mg "is_number" s_is_number)
    (o_is_within_bits : Own K mg "is_within_bits" s_is_within_bits)
    (o__law_is_fraction : Own K mg "_law_is_fraction" s__law_is_fraction)
    (o_divided : Own K mg "divided" s_divided)
    (o_apart : Own K mg "apart" s_apart)
    (o__law_table : Own K mg "_law_table" s__law_table)
    (o__law_over : Own K mg "_law_over" s__law_over)
    (o__law_plus : Own K mg "_law_plus" s__law_plus)
    (o__law_minus : Own K mg "_law_minus" s__law_minus)
    (o__law_whole_parts : Own K mg "_law_whole_parts" s__law_whole_parts)
    (o_is_amount : Own K mg "is_amount" s_is_amount)
    (o_total : Own K mg "total" s_total)
    (o_check_number : Own K mg "check_number" s_check_number)
    (o_nearest_to : Own K mg "nearest_to" s_nearest_to)
    (o__law_distance : Own K mg "_law_distance" s__law_distance)
    (o__law_greatest : Own K mg "_law_greatest" s__law_greatest)
    (o__law_is_nearest : Own K mg "_law_is_nearest" s__law_is_nearest)
    (o_are_amounts : Own K mg "are_amounts" s_are_amounts)
    (o__law_drawable : Own K mg "_law_drawable" s__law_drawable)
    (o__law_total : Own K mg "_law_total" s__law_total)
    (o_amount_apart : Own K mg "amount_apart" s_amount_apart)
    (o_is_table : Own K mg "is_table" s_is_table)
    (o__law_is_table : Own K mg "_law_is_table" s__law_is_table)
    (o__law_least_distance : Own K mg "_law_least_distance" s__law_least_distance)
    (o__law_parted : Own K mg "_law_parted" s__law_parted)
    (o_check_table : Own K mg "check_table" s_check_table)
    (o__law_beats_all : Own K mg "_law_beats_all" s__law_beats_all)
    (o_nearest : Own K mg "nearest" s_nearest)
    (o_can_be_drawn : Own K mg "can_be_drawn" s_can_be_drawn)
    (o_check_pair : Own K mg "check_pair" s_check_pair)
    (o_distance : Own K mg "distance" s_distance)
    (o__law_is_right : Own K mg "_law_is_right" s__law_is_right)
    (o_law : Own K mg "law" s_law)
    (z_abs : PySem.W.nsIn K mainGlobals "abs" = some none)
    (z_len : PySem.W.nsIn K mainGlobals "len" = some none)
    (z_sum : PySem.W.nsIn K mainGlobals "sum" = some none)
    (z_all : PySem.W.nsIn K mainGlobals "all" = some none)
    (z_any : PySem.W.nsIn K mainGlobals "any" = some none)
    (z_isinstance : PySem.W.nsIn K mainGlobals "isinstance" = some none)
    (z_repr : PySem.W.nsIn K mainGlobals "repr" = some none)
    (z_int : PySem.W.nsIn K mainGlobals "int" = some none)
    (z_tuple : PySem.W.nsIn K mainGlobals "tuple" = some none)
    (z_list : PySem.W.nsIn K mainGlobals "list" = some none)
    (z_bool : PySem.W.nsIn K mainGlobals "bool" = some none)
    (z_str : PySem.W.nsIn K mainGlobals "str" = some none)
    (z_range : PySem.W.nsIn K mainGlobals "range" = some none)
    (z_zip : PySem.W.nsIn K mainGlobals "zip" = some none)
    (z_enumerate : PySem.W.nsIn K mainGlobals "enumerate" = some none)
    (z_max : PySem.W.nsIn K mainGlobals "max" = some none)
    (z_min : PySem.W.nsIn K mainGlobals "min" = some none)
    (z_sorted : PySem.W.nsIn K mainGlobals "sorted" = some none)
    (z_reversed : PySem.W.nsIn K mainGlobals "reversed" = some none)
    (z_set : PySem.W.nsIn K mainGlobals "set" = some none)
    (z_dict : PySem.W.nsIn K mainGlobals "dict" = some none)
    (i_gcd : PySem.W.nsIn K mainGlobals "gcd" = some (some (.builtin "math.gcd")))
    {t_MOST_OUTCOMES : Tok} (c_MOST_OUTCOMES : PySem.W.nsIn K mainGlobals "MOST_OUTCOMES" = some (some (.int 8 t_MOST_OUTCOMES))) :
    ∃ fd : FuncData, (∀ (s : Shared) (u : Value), BindsTo s fd ⟨[u], []⟩ [("_law_script", u)]) ∧ ∀ base : Heap, K.In base → base.Ns mainGlobals mg → FnG P w K mg base 10 fa fd ["_law_script"] (lawS 63) := by
  have B : Blt mg := blt_mk X G (fun x hx => by
    simp only [names0, List.mem_cons, List.not_mem_nil, or_false] at hx
    rcases hx with rfl | rfl | rfl | rfl | rfl | rfl | rfl | rfl | rfl | rfl | rfl | rfl | rfl | rfl | rfl | rfl | rfl | rfl | rfl | rfl | rfl <;> assumption)
  refine law_fin hfa o_law (fun _ _ _ _ _ _ _ _ => .of_eq rfl) (fun base hK hg => all_ok B o__law_deck o__law_draw o__law_common o__law_is_less o_is_integer o_lowest o_is_power_of_two o_is_above o__law_is_integer o__law_pick o__law_fraction o_is_fraction o_added o_is_number o_is_within_bits o__law_is_fraction o_divided o_apart o__law_table o__law_over o__law_plus o__law_minus o__law_whole_parts o_is_amount o_total o_check_number o_nearest_to o__law_distance o__law_greatest o__law_is_nearest o_are_amounts o__law_drawable o__law_total o_amount_apart o_is_table o__law_is_table o__law_least_distance o__law_parted o_check_table o__law_beats_all o_nearest o_can_be_drawn o_check_pair o_distance o__law_is_right o_law (PySem.W.mg_of X G i_gcd) (PySem.W.mg_of X G c_MOST_OUTCOMES)) ?_
  rintro xs μ Q ⟨rfl, ns, rfl, hl, hQ⟩
  exact ⟨rfl, ns, rfl, rfl, hQ⟩
end K47
open PySem PySem.W PyProof.Rows
set_option maxHeartbeats 0 in
theorem PySem.Challenge.cw_drawnbits_k47_whole_nearest_tables_holds : PySem.Challenge.rw_drawnbits_k47_whole_nearest_tables.Holds := by
  w_on; o_law; k_head; (case hw => w_witness2)
  k_fill
  refine Fx.walk_law (l := PySem.Challenge.rw_drawnbits_k47_whole_nearest_tables) (n := 63) (k := 10) (x := "_law_script") rfl (by decide) rfl ⟨rfl, by decide, by decide⟩ (fun w h Y => PySem.W.kIn_of Y) ?F
  case F =>
    intro w mg fa h KX G hmg
    refine' K47.all_mk KX G hmg ?o__law_deck ?o__law_draw ?o__law_common ?o__law_is_less ?o_is_integer ?o_lowest ?o_is_power_of_two ?o_is_above ?o__law_is_integer ?o__law_pick ?o__law_fraction ?o_is_fraction ?o_added ?o_is_number ?o_is_within_bits ?o__law_is_fraction ?o_divided ?o_apart ?o__law_table ?o__law_over ?o__law_plus ?o__law_minus ?o__law_whole_parts ?o_is_amount ?o_total ?o_check_number ?o_nearest_to ?o__law_distance ?o__law_greatest ?o__law_is_nearest ?o_are_amounts ?o__law_drawable ?o__law_total ?o_amount_apart ?o_is_table ?o__law_is_table ?o__law_least_distance ?o__law_parted ?o_check_table ?o__law_beats_all ?o_nearest ?o_can_be_drawn ?o_check_pair ?o_distance ?o__law_is_right ?o_law ?z_abs ?z_len ?z_sum ?z_all ?z_any ?z_isinstance ?z_repr ?z_int ?z_tuple ?z_list ?z_bool ?z_str ?z_range ?z_zip ?z_enumerate ?z_max ?z_min ?z_sorted ?z_reversed ?z_set ?z_dict ?i_gcd ?c_MOST_OUTCOMES
    (case o__law_deck => refine' Fx.own_mk KX G ?a ?l ?c ?k; (case a => k_is); (case l => k_is); (case c => k_is); (case k => k_is))
    (case o__law_draw => refine' Fx.own_mk KX G ?a ?l ?c ?k; (case a => k_is); (case l => k_is); (case c => k_is); (case k => k_is))
    (case o__law_common => refine' Fx.own_mk KX G ?a ?l ?c ?k; (case a => k_is); (case l => k_is); (case c => k_is); (case k => k_is))
    (case o__law_is_less => refine' Fx.own_mk KX G ?a ?l ?c ?k; (case a => k_is); (case l => k_is); (case c => k_is); (case k => k_is))
    (case o_is_integer => refine' Fx.own_mk KX G ?a ?l ?c ?k; (case a => k_is); (case l => k_is); (case c => k_is); (case k => k_is))
    (case o_lowest => refine' Fx.own_mk KX G ?a ?l ?c ?k; (case a => k_is); (case l => k_is); (case c => k_is); (case k => k_is))
    (case o_is_power_of_two => refine' Fx.own_mk KX G ?a ?l ?c ?k; (case a => k_is); (case l => k_is); (case c => k_is); (case k => k_is))
    (case o_is_above => refine' Fx.own_mk KX G ?a ?l ?c ?k; (case a => k_is); (case l => k_is); (case c => k_is); (case k => k_is))
    (case o__law_is_integer => refine' Fx.own_mk KX G ?a ?l ?c ?k; (case a => k_is); (case l => k_is); (case c => k_is); (case k => k_is))
    (case o__law_pick => refine' Fx.own_mk KX G ?a ?l ?c ?k; (case a => k_is); (case l => k_is); (case c => k_is); (case k => k_is))
    (case o__law_fraction => refine' Fx.own_mk KX G ?a ?l ?c ?k; (case a => k_is); (case l => k_is); (case c => k_is); (case k => k_is))
    (case o_is_fraction => refine' Fx.own_mk KX G ?a ?l ?c ?k; (case a => k_is); (case l => k_is); (case c => k_is); (case k => k_is))
    (case o_added => refine' Fx.own_mk KX G ?a ?l ?c ?k; (case a => k_is); (case l => k_is); (case c => k_is); (case k => k_is))
    (case o_is_number => refine' Fx.own_mk KX G ?a ?l ?c ?k; (case a => k_is); (case l => k_is); (case c => k_is); (case k => k_is))
    (case o_is_within_bits => refine' Fx.own_mk KX G ?a ?l ?c ?k; (case a => k_is); (case l => k_is); (case c => k_is); (case k => k_is))
    (case o__law_is_fraction => refine' Fx.own_mk KX G ?a ?l ?c ?k; (case a => k_is); (case l => k_is); (case c => k_is); (case k => k_is))
    (case o_divided => refine' Fx.own_mk KX G ?a ?l ?c ?k; (case a => k_is); (case l => k_is); (case c => k_is); (case k => k_is))
    (case o_apart => refine' Fx.own_mk KX G ?a ?l ?c ?k; (case a => k_is); (case l => k_is); (case c => k_is); (case k => k_is))
    (case o__law_table => refine' Fx.own_mk KX G ?a ?l ?c ?k; (case a => k_is); (case l => k_is); (case c => k_is); (case k => k_is))
    (case o__law_over => refine' Fx.own_mk KX G ?a ?l ?c ?k; (case a => k_is); (case l => k_is); (case c => k_is); (case k => k_is))
    (case o__law_plus => refine' Fx.own_mk KX G ?a ?l ?c ?k; (case a => k_is); (case l => k_is); (case c => k_is); (case k => k_is))
    (case o__law_minus => refine' Fx.own_mk KX G ?a ?l ?c ?k; (case a => k_is); (case l => k_is); (case c => k_is); (case k => k_is))
    (case o__law_whole_parts => refine' Fx.own_mk KX G ?a ?l ?c ?k; (case a => k_is); (case l => k_is); (case c => k_is); (case k => k_is))
    (case o_is_amount => refine' Fx.own_mk KX G ?a ?l ?c ?k; (case a => k_is); (case l => k_is); (case c => k_is); (case k => k_is))
    (case o_total => refine' Fx.own_mk KX G ?a ?l ?c ?k; (case a => k_is); (case l => k_is); (case c => k_is); (case k => k_is))
    (case o_check_number => refine' Fx.own_mk KX G ?a ?l ?c ?k; (case a => k_is); (case l => k_is); (case c => k_is); (case k => k_is))
    (case o_nearest_to => refine' Fx.own_mk KX G ?a ?l ?c ?k; (case a => k_is); (case l => k_is); (case c => k_is); (case k => k_is))
    (case o__law_distance => refine' Fx.own_mk KX G ?a ?l ?c ?k; (case a => k_is); (case l => k_is); (case c => k_is); (case k => k_is))
    (case o__law_greatest => refine' Fx.own_mk KX G ?a ?l ?c ?k; (case a => k_is); (case l => k_is); (case c => k_is); (case k => k_is))
    (case o__law_is_nearest => refine' Fx.own_mk KX G ?a ?l ?c ?k; (case a => k_is); (case l => k_is); (case c => k_is); (case k => k_is))
    (case o_are_amounts => refine' Fx.own_mk KX G ?a ?l ?c ?k; (case a => k_is); (case l => k_is); (case c => k_is); (case k => k_is))
    (case o__law_drawable => refine' Fx.own_mk KX G ?a ?l ?c ?k; (case a => k_is); (case l => k_is); (case c => k_is); (case k => k_is))
    (case o__law_total => refine' Fx.own_mk KX G ?a ?l ?c ?k; (case a => k_is); (case l => k_is); (case c => k_is); (case k => k_is))
    (case o_amount_apart => refine' Fx.own_mk KX G ?a ?l ?c ?k; (case a => k_is); (case l => k_is); (case c => k_is); (case k => k_is))
    (case o_is_table => refine' Fx.own_mk KX G ?a ?l ?c ?k; (case a => k_is); (case l => k_is); (case c => k_is); (case k => k_is))
    (case o__law_is_table => refine' Fx.own_mk KX G ?a ?l ?c ?k; (case a => k_is); (case l => k_is); (case c => k_is); (case k => k_is))
    (case o__law_least_distance => refine' Fx.own_mk KX G ?a ?l ?c ?k; (case a => k_is); (case l => k_is); (case c => k_is); (case k => k_is))
    (case o__law_parted => refine' Fx.own_mk KX G ?a ?l ?c ?k; (case a => k_is); (case l => k_is); (case c => k_is); (case k => k_is))
    (case o_check_table => refine' Fx.own_mk KX G ?a ?l ?c ?k; (case a => k_is); (case l => k_is); (case c => k_is); (case k => k_is))
    (case o__law_beats_all => refine' Fx.own_mk KX G ?a ?l ?c ?k; (case a => k_is); (case l => k_is); (case c => k_is); (case k => k_is))
    (case o_nearest => refine' Fx.own_mk KX G ?a ?l ?c ?k; (case a => k_is); (case l => k_is); (case c => k_is); (case k => k_is))
    (case o_can_be_drawn => refine' Fx.own_mk KX G ?a ?l ?c ?k; (case a => k_is); (case l => k_is); (case c => k_is); (case k => k_is))
    (case o_check_pair => refine' Fx.own_mk KX G ?a ?l ?c ?k; (case a => k_is); (case l => k_is); (case c => k_is); (case k => k_is))
    (case o_distance => refine' Fx.own_mk KX G ?a ?l ?c ?k; (case a => k_is); (case l => k_is); (case c => k_is); (case k => k_is))
    (case o__law_is_right => refine' Fx.own_mk KX G ?a ?l ?c ?k; (case a => k_is); (case l => k_is); (case c => k_is); (case k => k_is))
    (case o_law => refine' Fx.own_mk KX G ?a ?l ?c ?k; (case a => k_is); (case l => k_is); (case c => k_is); (case k => k_is))
    (case z_abs => k_is)
    (case z_len => k_is)
    (case z_sum => k_is)
    (case z_all => k_is)
    (case z_any => k_is)
    (case z_isinstance => k_is)
    (case z_repr => k_is)
    (case z_int => k_is)
    (case z_tuple => k_is)
    (case z_list => k_is)
    (case z_bool => k_is)
    (case z_str => k_is)
    (case z_range => k_is)
    (case z_zip => k_is)
    (case z_enumerate => k_is)
    (case z_max => k_is)
    (case z_min => k_is)
    (case z_sorted => k_is)
    (case z_reversed => k_is)
    (case z_set => k_is)
    (case z_dict => k_is)
    (case i_gcd => k_is)
    (case c_MOST_OUTCOMES => k_is)
