import PyProof.Rows.All
import Wide.All
import OpenK.AllK
import Wide.FinOn
import HandS.TupSets
import HandS.TupLen
import HandS.Iter
import HandS.Walk
import HandS.Conv
import KE.KeyNested
import KE.KDictWalk
import HandS.ForMost
import HandS.IsInst
import HandS.Gcd
import HandS.Wide
import HandS.TupMul
import HandS.TupAny
import HandS.TupLe
import HandS.Style
import HandS.Zip
import HandS.Flow
import KE.KMathG
import KE.DatumOrd
import PyProof.ReprRoads
import KE.GoesEnum
import HandS.Comp
import HandS.SetFor
import HandS.Strs
import HandS.WordsDict
import HandS.WideBits
import HandS.RaiseMore
import KE.BitLaws
import HandS.Dict
import PyProof.StrLawsRepr
import HandS.Small
import HandS.More
import HandS.DictComp
import KE.SortData
import PySem.Challenge.RW_drawnbits_k43_whole_rows_of_wants
set_option Elab.async false
set_option linter.all false
set_option maxRecDepth 100000
set_option maxHeartbeats 4000000
set_option synthInstance.maxHeartbeats 400000
set_option synthInstance.maxSize 4096
namespace MR
def Sm (n : Nat) (q : Rat) : Prop := q.num.natAbs < 2 ^ n ∧ q.den < 2 ^ n
theorem Sm.mono {m n : Nat} {q : Rat} (h : Sm m q) (l : m ≤ n) : Sm n q :=
  ⟨Nat.lt_of_lt_of_le h.1 (Nat.pow_le_pow_right (by decide) l), Nat.lt_of_lt_of_le h.2 (Nat.pow_le_pow_right (by decide) l)⟩
theorem divInt_parts (a b : Int) (hb : 0 < b) : (Rat.divInt a b).num = a / ((Nat.gcd a.natAbs b.natAbs : Nat) : Int) ∧ (((Rat.divInt a b).den : Nat) : Int) = b / ((Nat.gcd a.natAbs b.natAbs : Nat) : Int) := by
  obtain ⟨n, rfl⟩ : ∃ n : Nat, b = (n : Int) := ⟨b.toNat, by omega⟩
  have hn : n ≠ 0 := by omega
  have e : (Rat.divInt a (n : Int)) = Rat.normalize a n hn := by
    rw [Rat.normalize_eq_mkRat]
    rfl
  rw [e, Rat.normalize_eq]
  simp only [Int.natAbs_natCast]
  refine ⟨trivial, ?_⟩
  rw [Int.natCast_ediv]
theorem sm_divInt {a b : Int} {n : Nat} (ha : a.natAbs < 2 ^ n) (h0 : 0 < b) (hb : b.natAbs < 2 ^ n) : Sm n (Rat.divInt a b) := by
  obtain ⟨h1, h2⟩ := divInt_parts a b h0
  constructor
  · rw [h1, Int.natAbs_ediv_of_dvd]
    · exact Nat.lt_of_le_of_lt (Nat.div_le_self _ _) ha
    · exact Int.ofNat_dvd_left.mpr (Nat.gcd_dvd_left _ _)
  · have : ((Rat.divInt a b).den : Int).natAbs < 2 ^ n := by
      rw [h2, Int.natAbs_ediv_of_dvd]
      · exact Nat.lt_of_le_of_lt (Nat.div_le_self _ _) hb
      · exact Int.ofNat_dvd_left.mpr (Nat.gcd_dvd_right _ _)
    simpa using this
theorem mul_eq (p q : Rat) : p * q = Rat.divInt (p.num * q.num) ((p.den : Int) * (q.den : Int)) := by
  conv => lhs; rw [← Rat.num_divInt_den p, ← Rat.num_divInt_den q]
  rw [Rat.divInt_mul_divInt]
theorem add_eq (p q : Rat) : p + q = Rat.divInt (p.num * (q.den : Int) + q.num * (p.den : Int)) ((p.den : Int) * (q.den : Int)) := by
  conv => lhs; rw [← Rat.num_divInt_den p, ← Rat.num_divInt_den q]
  rw [Rat.divInt_add_divInt _ _ (by have := p.den_nz; omega) (by have := q.den_nz; omega)]
theorem den_pos (p : Rat) : 0 < (p.den : Int) := by have := p.den_nz; omega
theorem natAbs_mul_lt {x y : Int} {m n : Nat} (hx : x.natAbs < 2 ^ m) (hy : y.natAbs < 2 ^ n) : (x * y).natAbs < 2 ^ (m + n) := by
  rw [Int.natAbs_mul, Nat.pow_add]
  exact Nat.mul_lt_mul'' hx hy
theorem natAbs_add_lt {x y : Int} {n : Nat} (hx : x.natAbs < 2 ^ n) (hy : y.natAbs < 2 ^ n) : (x + y).natAbs < 2 ^ (n + 1) := by
  rw [Nat.pow_succ]
  omega
theorem Sm.mul {m n : Nat} {p q : Rat} (hp : Sm m p) (hq : Sm n q) : Sm (m + n) (p * q) := by
  rw [mul_eq]
  refine sm_divInt (natAbs_mul_lt hp.1 hq.1) (Int.mul_pos (den_pos p) (den_pos q)) ?_
  exact natAbs_mul_lt (x := (p.den : Int)) (y := (q.den : Int)) (by simpa using hp.2) (by simpa using hq.2)
theorem Sm.add {m n : Nat} {p q : Rat} (hp : Sm m p) (hq : Sm n q) : Sm (m + n + 1) (p + q) := by
  rw [add_eq]
  have h1 := natAbs_mul_lt (y := (q.den : Int)) hp.1 (by simpa using hq.2)
  have h2 := natAbs_mul_lt (y := (p.den : Int)) hq.1 (by simpa using hp.2)
  rw [Nat.add_comm n m] at h2
  refine sm_divInt (natAbs_add_lt h1 h2) (Int.mul_pos (den_pos p) (den_pos q)) ?_
  have := natAbs_mul_lt (x := (p.den : Int)) (y := (q.den : Int)) (by simpa using hp.2) (by simpa using hq.2)
  exact Nat.lt_of_lt_of_le this (Nat.pow_le_pow_right (by decide) (by omega))
end MR
namespace MR
def Cm (D : Nat) (q : Rat) : Prop := ∃ k : Int, q * (D : Rat) = (k : Rat)
theorem cm_int (D : Nat) (k : Int) : Cm D (k : Rat) := ⟨k * D, by rw [Rat.intCast_mul, Rat.intCast_natCast]⟩
theorem Cm.add {D : Nat} {p q : Rat} (hp : Cm D p) (hq : Cm D q) : Cm D (p + q) := by
  obtain ⟨k, hk⟩ := hp
  obtain ⟨l, hl⟩ := hq
  exact ⟨k + l, by rw [Rat.intCast_add]; grind⟩
theorem Cm.sub {D : Nat} {p q : Rat} (hp : Cm D p) (hq : Cm D q) : Cm D (p - q) := by
  obtain ⟨k, hk⟩ := hp
  obtain ⟨l, hl⟩ := hq
  exact ⟨k - l, by rw [Rat.intCast_sub]; grind⟩
theorem Cm.mul {D E : Nat} {p q : Rat} (hp : Cm D p) (hq : Cm E q) : Cm (D * E) (p * q) := by
  obtain ⟨k, hk⟩ := hp
  obtain ⟨l, hl⟩ := hq
  exact ⟨k * l, by rw [Rat.intCast_mul, Rat.natCast_mul]; grind⟩
theorem Cm.dvd {D E : Nat} {p : Rat} (hp : Cm D p) (h : D ∣ E) : Cm E p := by
  obtain ⟨k, hk⟩ := hp
  obtain ⟨c, rfl⟩ := h
  exact ⟨k * c, by rw [Rat.intCast_mul, Rat.natCast_mul, Rat.intCast_natCast]; grind⟩
theorem Cm.sum {D : Nat} : ∀ {qs : List Rat}, (∀ q ∈ qs, Cm D q) → Cm D qs.sum
  | [], _ => cm_int D 0
  | q :: qs, h => by
    rw [List.sum_cons]
    exact (h q List.mem_cons_self).add (Cm.sum fun x hx => h x (List.mem_cons_of_mem _ hx))
theorem sum_nonneg : ∀ {qs : List Rat}, (∀ q ∈ qs, 0 ≤ q) → 0 ≤ qs.sum
  | [], _ => by decide
  | q :: qs, h => by
    rw [List.sum_cons]
    have h1 := h q List.mem_cons_self
    have h2 := sum_nonneg fun x hx => h x (List.mem_cons_of_mem _ hx)
    grind
theorem sub_sum {ps qs : List Rat} (s : List.Sublist ps qs) (h : ∀ q ∈ qs, 0 ≤ q) : ps.sum ≤ qs.sum := by
  induction s with
  | slnil => exact Rat.le_refl
  | cons a s ih =>
    rw [List.sum_cons]
    have h1 := h a List.mem_cons_self
    have h2 := ih fun x hx => h x (List.mem_cons_of_mem _ hx)
    grind
  | cons_cons a s ih =>
    rw [List.sum_cons, List.sum_cons]
    have h2 := ih fun x hx => h x (List.mem_cons_of_mem _ hx)
    grind
theorem mem_le_sum {qs : List Rat} {q : Rat} (hq : q ∈ qs) (h : ∀ q ∈ qs, 0 ≤ q) : q ≤ qs.sum := by
  have := sub_sum (List.singleton_sublist.mpr hq) h
  rw [List.sum_cons] at this
  have e : ([] : List Rat).sum = 0 := rfl
  rw [e] at this
  grind
structure Sb (n : Nat) (qs : List Rat) : Prop where
  pos : ∀ q ∈ qs, 0 ≤ q
  top : qs.sum < (2 ^ 40 : Nat)
  com : ∃ D : Nat, 0 < D ∧ D < 2 ^ n ∧ ∀ q ∈ qs, Cm D q
theorem Sb.mono {m n : Nat} {qs : List Rat} (h : Sb m qs) (l : m ≤ n) : Sb n qs :=
  ⟨h.pos, h.top, let ⟨D, h1, h2, h3⟩ := h.com; ⟨D, h1, Nat.lt_of_lt_of_le h2 (Nat.pow_le_pow_right (by decide) l), h3⟩⟩
theorem Sb.sub {n : Nat} {ps qs : List Rat} (h : Sb n qs) (s : List.Sublist ps qs) : Sb n ps :=
  ⟨fun q hq => h.pos q (s.subset hq), by have := sub_sum s h.pos; have := h.top; grind, let ⟨D, h1, h2, h3⟩ := h.com; ⟨D, h1, h2, fun q hq => h3 q (s.subset hq)⟩⟩
structure Tab (n : Nat) (qs : List Rat) : Prop where
  ne : qs ≠ []
  len : qs.length ≤ 8
  pos : ∀ q ∈ qs, 0 ≤ q
  one : qs.sum = 1
  com : ∃ D : Nat, 0 < D ∧ D < 2 ^ n ∧ ∀ q ∈ qs, Cm D q
theorem Tab.mono {m n : Nat} {qs : List Rat} (h : Tab m qs) (l : m ≤ n) : Tab n qs :=
  ⟨h.ne, h.len, h.pos, h.one, let ⟨D, h1, h2, h3⟩ := h.com; ⟨D, h1, Nat.lt_of_lt_of_le h2 (Nat.pow_le_pow_right (by decide) l), h3⟩⟩
theorem Tab.sb {n : Nat} {qs : List Rat} (h : Tab n qs) : Sb n qs := ⟨h.pos, by rw [h.one]; exact Rat.lt_iff_le_and_ne.mpr ⟨by decide, by decide⟩, h.com⟩
theorem Tab.le1 {n : Nat} {qs : List Rat} (h : Tab n qs) {q : Rat} (hq : q ∈ qs) : q ≤ 1 := by
  have := mem_le_sum hq h.pos
  rw [h.one] at this
  exact this
structure Lot (many : Nat) (ns : List Nat) : Prop where
  asc : ns.Pairwise (· < ·)
  lt : ∀ n ∈ ns, n < many
  le : many ≤ 8
def lotQ (qs : List Rat) (ns : List Nat) : List Rat := ns.map fun i => qs.getD i 0
theorem lot_sub0 : ∀ (qs : List Rat) (a : Nat) (ns : List Nat), ns.Pairwise (· < ·) → (∀ n ∈ ns, a ≤ n ∧ n < a + qs.length) → (ns.map fun i => qs.getD (i - a) 0).Sublist qs
  | [], a, ns, _, h => by
    cases ns with
    | nil => exact .slnil
    | cons n ns => have := h n List.mem_cons_self; simp at this; omega
  | q :: qs, a, [], _, _ => List.nil_sublist _
  | q :: qs, a, n :: ns, hp, h => by
    have hn := h n List.mem_cons_self
    rw [List.pairwise_cons] at hp
    have step : ∀ ms : List Nat, ms.Pairwise (· < ·) → (∀ m ∈ ms, a + 1 ≤ m ∧ m < a + (qs.length + 1)) → (ms.map fun i => (q :: qs).getD (i - a) 0).Sublist qs := fun ms h1 h2 => by
      have ih := lot_sub0 qs (a + 1) ms h1 fun m hm => by have := h2 m hm; omega
      have e : (ms.map fun i => (q :: qs).getD (i - a) 0) = ms.map fun i => qs.getD (i - (a + 1)) 0 := by
        refine List.map_congr_left fun m hm => ?_
        have := h2 m hm
        rw [show m - a = (m - (a + 1)) + 1 by omega]
        rfl
      rw [e]; exact ih
    by_cases e : n = a
    · subst e
      have hs := step ns hp.2 fun m hm => by
        have h1 := hp.1 m hm
        have h2 := h m (List.mem_cons_of_mem _ hm)
        rw [List.length_cons] at h2
        omega
      rw [List.map_cons]
      have e0 : (q :: qs).getD (n - n) 0 = q := by rw [Nat.sub_self]; rfl
      rw [e0]
      exact .cons_cons _ hs
    · refine .cons _ (step (n :: ns) (List.pairwise_cons.mpr hp) fun m hm => ?_)
      have h2 := h m hm
      rw [List.length_cons] at h2
      rcases List.mem_cons.mp hm with rfl | hm
      · omega
      · have := hp.1 m hm; omega
theorem Lot.sub {qs : List Rat} {ns : List Nat} (h : Lot qs.length ns) : (lotQ qs ns).Sublist qs := by
  have := lot_sub0 qs 0 ns h.asc fun n hn => by have := h.lt n hn; omega
  simpa [lotQ] using this
theorem Lot.len {many : Nat} {ns : List Nat} (h : Lot many ns) : ns.length ≤ 8 := by
  have key : ∀ (ns : List Nat) (a : Nat), ns.Pairwise (· < ·) → (∀ n ∈ ns, a ≤ n ∧ n < 8) → ns.length ≤ 8 - a := by
    intro ns
    induction ns with
    | nil => intro a _ _; simp
    | cons n ns ih =>
      intro a hp h
      rw [List.pairwise_cons] at hp
      have h1 := h n List.mem_cons_self
      have := ih (n + 1) hp.2 fun m hm => by
        have h2 := hp.1 m hm
        have h3 := h m (List.mem_cons_of_mem _ hm)
        omega
      rw [List.length_cons]
      omega
  have := key ns 0 h.asc fun n hn => by have := h.lt n hn; have := h.le; omega
  omega
theorem zip_fst {qs : List Rat} {ns : List Nat} (h : ns.length = qs.length) : (qs.zip ns).map (·.1) = qs := by
  rw [List.map_fst_zip (by omega)]
theorem div_self' {W : Rat} (h : W ≠ 0) : W / W = 1 := by
  rw [Rat.div_def]; exact Rat.mul_inv_cancel W h
theorem sum_add {α : Type} (f g : α → Rat) : ∀ (l : List α), (l.map fun a => f a + g a).sum = (l.map f).sum + (l.map g).sum
  | [] => (Rat.zero_add 0).symm
  | a :: l => by
    rw [List.map_cons, List.sum_cons, List.map_cons, List.sum_cons, List.map_cons, List.sum_cons, sum_add f g l]
    grind
theorem sum_zero {α : Type} : ∀ (l : List α), (l.map fun _ => (0 : Rat)).sum = 0
  | [] => rfl
  | a :: l => by rw [List.map_cons, List.sum_cons, sum_zero l]; exact Rat.zero_add 0
theorem sum_mulL {α : Type} (c : Rat) (f : α → Rat) : ∀ (l : List α), (l.map fun a => c * f a).sum = c * (l.map f).sum
  | [] => (Rat.mul_zero c).symm
  | a :: l => by
    rw [List.map_cons, List.sum_cons, List.map_cons, List.sum_cons, sum_mulL c f l]
    grind
theorem sum_swap {α β : Type} (F : α → β → Rat) (is : List β) : ∀ (l : List α), (is.map fun i => (l.map fun a => F a i).sum).sum = (l.map fun a => (is.map fun i => F a i).sum).sum
  | [] => sum_zero is
  | a :: l => by
    rw [List.map_cons, List.sum_cons, ← sum_swap F is l, ← sum_add]
    congr 1
theorem range_getD : ∀ (t : List Rat), ((List.range t.length).map fun i => t.getD i 0) = t := fun t => by
  apply List.ext_getElem
  · simp
  · intro i h1 h2
    simp
    rw [List.getElem?_eq_getElem h2]
    rfl
def mixc (qs : List Rat) (ts : List (List Rat)) (i : Nat) : List Rat := (qs.zip ts).map fun p => p.1 * p.2.getD i 0
def mix (qs : List Rat) (ts : List (List Rat)) (k : Nat) : List Rat := (List.range k).map fun i => (mixc qs ts i).sum
theorem common_all {n : Nat} : ∀ (ts : List (List Rat)), (∀ t ∈ ts, Tab n t) → ∃ D : Nat, 0 < D ∧ D < 2 ^ (n * ts.length + 1) ∧ ∀ t ∈ ts, ∀ q ∈ t, Cm D q
  | [], _ => ⟨1, by decide, by simp, fun _ h => by cases h⟩
  | t :: ts, h => by
    obtain ⟨D, h1, h2, h3⟩ := common_all ts fun x hx => h x (List.mem_cons_of_mem _ hx)
    obtain ⟨E, g1, g2, g3⟩ := (h t List.mem_cons_self).com
    refine ⟨E * D, Nat.mul_pos g1 h1, ?_, fun x hx q hq => ?_⟩
    · have := Nat.mul_lt_mul'' g2 h2
      rw [← Nat.pow_add] at this
      rw [List.length_cons, Nat.mul_add, Nat.mul_one]
      exact Nat.lt_of_lt_of_le this (Nat.pow_le_pow_right (by decide) (by omega))
    · rcases List.mem_cons.mp hx with rfl | hx
      · exact (g3 q hq).dvd ⟨D, rfl⟩
      · exact (h3 x hx q hq).dvd ⟨E, Nat.mul_comm _ _⟩
theorem getD_cases (t : List Rat) (i : Nat) : t.getD i 0 ∈ t ∨ t.getD i 0 = 0 := by
  by_cases h : i < t.length
  · left
    rw [List.getD_eq_getElem?_getD, List.getElem?_eq_getElem h]
    exact List.getElem_mem h
  · right
    rw [List.getD_eq_getElem?_getD, List.getElem?_eq_none (by omega)]
    rfl
structure Mixes (m n k : Nat) (qs : List Rat) (ts : List (List Rat)) : Prop where
  tab : Tab m qs
  tabs : ∀ t ∈ ts, Tab n t
  len : ts.length = qs.length
  wid : ∀ t ∈ ts, t.length = k
theorem Mixes.le8 {m n k : Nat} {qs : List Rat} {ts : List (List Rat)} (h : Mixes m n k qs ts) : ts.length ≤ 8 := by rw [h.len]; exact h.tab.len
theorem Mixes.comL {m n k : Nat} {qs : List Rat} {ts : List (List Rat)} (h : Mixes m n k qs ts) : ∃ D : Nat, 0 < D ∧ D < 2 ^ (m + (n * ts.length + 1)) ∧ ∀ i, ∀ q ∈ mixc qs ts i, Cm D q := by
  obtain ⟨D, h1, h2, h3⟩ := common_all ts h.tabs
  obtain ⟨E, g1, g2, g3⟩ := h.tab.com
  refine ⟨E * D, Nat.mul_pos g1 h1, ?_, fun i q hq => ?_⟩
  · have := Nat.mul_lt_mul'' g2 h2
    rw [← Nat.pow_add] at this
    exact this
  · obtain ⟨p, hp, rfl⟩ := List.mem_map.mp hq
    have := List.of_mem_zip (a := p.1) (b := p.2) hp
    refine (g3 _ this.1).mul ?_
    rcases getD_cases p.2 i with z | z
    · exact h3 _ this.2 _ z
    · rw [z]; exact cm_int D 0
theorem Mixes.com {m n k : Nat} {qs : List Rat} {ts : List (List Rat)} (h : Mixes m n k qs ts) : ∃ D : Nat, 0 < D ∧ D < 2 ^ (m + (n * 8 + 1)) ∧ ∀ i, ∀ q ∈ mixc qs ts i, Cm D q := by
  obtain ⟨D, h1, h2, h3⟩ := h.comL
  have l8 := Nat.mul_le_mul_left n h.le8
  exact ⟨D, h1, Nat.lt_of_lt_of_le h2 (Nat.pow_le_pow_right (by decide) (by omega)), h3⟩
theorem Mixes.pos {m n k : Nat} {qs : List Rat} {ts : List (List Rat)} (h : Mixes m n k qs ts) (i : Nat) : ∀ q ∈ mixc qs ts i, 0 ≤ q := fun q hq => by
  obtain ⟨p, hp, rfl⟩ := List.mem_map.mp hq
  have := List.of_mem_zip (a := p.1) (b := p.2) hp
  refine Rat.mul_nonneg (h.tab.pos _ this.1) ?_
  rcases getD_cases p.2 i with z | z
  · exact (h.tabs _ this.2).pos _ z
  · rw [z]; decide
theorem Mixes.one {m n k : Nat} {qs : List Rat} {ts : List (List Rat)} (h : Mixes m n k qs ts) : (mix qs ts k).sum = 1 := by
  unfold mix mixc
  rw [sum_swap (fun (p : Rat × List Rat) i => p.1 * p.2.getD i 0)]
  rw [← h.tab.one]
  conv => rhs; rw [← zip_fst (qs := qs) (ns := List.replicate qs.length 0) (by simp)]
  have : ∀ (qs : List Rat) (ts : List (List Rat)), ts.length = qs.length → (∀ t ∈ ts, t.sum = 1 ∧ t.length = k) → ((qs.zip ts).map fun a => ((List.range k).map fun i => a.1 * a.2.getD i 0).sum) = (qs.zip (List.replicate qs.length 0)).map (·.1) := by
    intro qs
    induction qs with
    | nil => intro ts _ _; rfl
    | cons q qs ih =>
      intro ts hl ht
      cases ts with
      | nil => cases hl
      | cons t ts =>
        have h1 := ht t List.mem_cons_self
        simp only [List.zip_cons_cons, List.map_cons, List.length_cons, List.replicate_succ]
        rw [ih ts (by simpa using hl) fun x hx => ht x (List.mem_cons_of_mem _ hx), sum_mulL, ← h1.2, range_getD, h1.1, Rat.mul_one]
  rw [this qs ts h.len fun t ht => ⟨(h.tabs t ht).one, h.wid t ht⟩]
theorem Mixes.k8 {m n k : Nat} {qs : List Rat} {ts : List (List Rat)} (h : Mixes m n k qs ts) : 0 < k ∧ k ≤ 8 := by
  cases ts with
  | nil => have := h.len; exact absurd (List.length_eq_zero_iff.mp this.symm) h.tab.ne
  | cons t ts =>
    have h1 := h.tabs t List.mem_cons_self
    have h2 := h.wid t List.mem_cons_self
    rw [← h2]
    exact ⟨List.length_pos_iff.mpr h1.ne, h1.len⟩
theorem Mixes.res {m n k : Nat} {qs : List Rat} {ts : List (List Rat)} (h : Mixes m n k qs ts) : Tab (m + (n * 8 + 1)) (mix qs ts k) := by
  obtain ⟨D, h1, h2, h3⟩ := h.com
  have k8 := h.k8
  refine ⟨?_, ?_, ?_, h.one, D, h1, h2, ?_⟩
  · intro z
    have := congrArg List.length z
    unfold mix at this
    rw [List.length_map, List.length_range] at this
    simp at this; omega
  · unfold mix; rw [List.length_map, List.length_range]; exact k8.2
  · intro q hq
    obtain ⟨i, _, rfl⟩ := List.mem_map.mp hq
    exact sum_nonneg (h.pos i)
  · intro q hq
    obtain ⟨i, _, rfl⟩ := List.mem_map.mp hq
    exact Cm.sum (h3 i)
theorem Mixes.sb {m n k : Nat} {qs : List Rat} {ts : List (List Rat)} (h : Mixes m n k qs ts) {i : Nat} (hi : i < k) : Sb (m + (n * 8 + 1)) (mixc qs ts i) := by
  obtain ⟨D, h1, h2, h3⟩ := h.com
  refine ⟨h.pos i, ?_, D, h1, h2, h3 i⟩
  have : (mixc qs ts i).sum ∈ mix qs ts k := List.mem_map.mpr ⟨i, List.mem_range.mpr hi, rfl⟩
  have := h.res.le1 this
  have : (1 : Rat) < ((2 ^ 40 : Nat) : Rat) := Rat.lt_iff_le_and_ne.mpr ⟨by decide, by decide⟩
  grind
structure Parts (n : Nat) (b : Int) (ps : List Int) : Prop where
  len : ps.length = n
  pos : ∀ p ∈ ps, 0 ≤ p
  le : ∀ p ∈ ps, p ≤ b
  ex : ∃ p ∈ ps, 0 < p
theorem isum_le {b : Int} : ∀ (ps : List Int), (∀ p ∈ ps, p ≤ b) → ps.sum ≤ ps.length * b
  | [], _ => by simp
  | p :: ps, h => by
    have h1 := h p List.mem_cons_self
    have h2 := isum_le ps fun x hx => h x (List.mem_cons_of_mem _ hx)
    rw [List.sum_cons, List.length_cons, Int.natCast_add, Int.add_mul]
    omega
theorem isum_pos : ∀ (ps : List Int), (∀ p ∈ ps, 0 ≤ p) → 0 ≤ ps.sum ∧ ∀ q ∈ ps, q ≤ ps.sum
  | [], _ => by simp
  | p :: ps, h => by
    have h1 := h p List.mem_cons_self
    obtain ⟨h2, h3⟩ := isum_pos ps fun x hx => h x (List.mem_cons_of_mem _ hx)
    rw [List.sum_cons]
    refine ⟨by omega, fun q hq => ?_⟩
    rcases List.mem_cons.mp hq with rfl | hq
    · omega
    · have := h3 q hq; omega
theorem rsum_map (W : Int) : ∀ (ps : List Int), (ps.map fun p => Rat.divInt p W).sum = (ps.sum : Rat) / (W : Rat)
  | [] => by
    show (0 : Rat) = ((0 : Int) : Rat) / (W : Rat)
    rw [Rat.div_def]
    exact (Rat.zero_mul _).symm
  | p :: ps => by
    rw [List.map_cons, List.sum_cons, List.sum_cons, rsum_map W ps, Rat.divInt_eq_div, Rat.intCast_add, Rat.div_def, Rat.div_def, Rat.div_def, Rat.add_mul]
def ptab (ps : List Int) : List Rat := ps.map fun p => Rat.divInt p ps.sum
theorem Parts.sum {n : Nat} {b : Int} {ps : List Int} (h : Parts n b ps) : 0 < ps.sum ∧ ps.sum ≤ n * b := by
  obtain ⟨q, hq, h0⟩ := h.ex
  have h1 := (isum_pos ps h.pos).2 q hq
  have h2 := isum_le ps h.le
  rw [h.len] at h2
  exact ⟨by omega, h2⟩
theorem Parts.tab {n : Nat} {b : Int} {ps : List Int} (h : Parts n b ps) (hn : n ≤ 8) (hb : b ≤ 1000000000100) : Tab 44 (ptab ps) := by
  obtain ⟨h0, h1⟩ := h.sum
  obtain ⟨q, hq, _⟩ := h.ex
  have hW : ((ps.sum : Int) : Rat) ≠ 0 := by
    intro e
    have := Rat.intCast_inj.mp (show ((ps.sum : Int) : Rat) = ((0 : Int) : Rat) from e)
    omega
  have hWp : (0 : Rat) < ((ps.sum : Int) : Rat) := Rat.intCast_pos.mpr h0
  refine ⟨?_, ?_, ?_, ?_, ps.sum.toNat, by omega, ?_, ?_⟩
  · intro e
    have := congrArg List.length e
    unfold ptab at this
    rw [List.length_map] at this
    rw [List.length_eq_zero_iff.mp this] at hq
    cases hq
  · unfold ptab; rw [List.length_map, h.len]; exact hn
  · intro x hx
    obtain ⟨p, hp, rfl⟩ := List.mem_map.mp hx
    rw [Rat.divInt_eq_div, Rat.div_def]
    exact Rat.mul_nonneg (by have := h.pos p hp; exact_mod_cast this) (Rat.le_of_lt (Rat.inv_pos.mpr hWp))
  · unfold ptab
    rw [rsum_map]
    exact div_self' hW
  · have hb0 : 0 ≤ b := by have := h.le q hq; have := h.pos q hq; omega
    have : (n : Int) * b ≤ 8 * 1000000000100 := Int.mul_le_mul (by omega) hb hb0 (by decide)
    omega
  · intro x hx
    obtain ⟨p, hp, rfl⟩ := List.mem_map.mp hx
    refine ⟨p, ?_⟩
    have e : ((ps.sum.toNat : Nat) : Rat) = ((ps.sum : Int) : Rat) := by
      rw [← Rat.intCast_natCast]
      congr 1
      omega
    rw [e, Rat.divInt_eq_div, Rat.div_def, Rat.mul_assoc, Rat.inv_mul_cancel _ hW, Rat.mul_one]
end MR
namespace MR
def rs (k : Nat) (F : Nat → Rat) : Rat := ((List.range k).map F).sum
end MR
namespace MR
def rab (q : Rat) : Rat := if q < 0 then -q else q
def d2 (a b : List Rat) : Rat := rs a.length fun i => rab (a.getD i 0 - b.getD i 0)
def more (a b : List Rat) : List Nat := (List.range a.length).filter fun i => decide (b.getD i 0 < a.getD i 0)
theorem Cm.rab {D : Nat} {q : Rat} (h : Cm D q) : Cm D (MR.rab q) := by
  unfold MR.rab
  split
  · obtain ⟨k, hk⟩ := h
    exact ⟨-k, by rw [Rat.intCast_neg]; grind⟩
  · exact h
end MR
namespace MR
def rst (a b : Nat) : Nat → Nat
  | 0 => a % b
  | j + 1 => 2 * rst a b j % b
def dgt (a b j : Nat) : Nat := 2 * rst a b j / b
structure Ends (f : Nat → Nat) (m s : Nat) : Prop where
  lt : s < m
  eq : f m = f s
  inj : ∀ i j, i < j → j < m → f i ≠ f j
section
variable {a b : Nat}
theorem rst_lt (hb : 0 < b) : ∀ j, rst a b j < b
  | 0 => Nat.mod_lt _ hb
  | _ + 1 => Nat.mod_lt _ hb
theorem rst_pow : ∀ j, rst a b j = a * 2 ^ j % b
  | 0 => by simp [rst]
  | j + 1 => by
    show 2 * rst a b j % b = _
    rw [rst_pow j, Nat.pow_succ, Nat.mul_mod, Nat.mod_mod, ← Nat.mul_mod, Nat.mul_comm 2, Nat.mul_assoc]
theorem dgt_eq (j : Nat) : 2 * rst a b j = b * dgt a b j + rst a b (j + 1) := (Nat.div_add_mod _ _).symm
theorem dgt_lt (hb : 0 < b) (j : Nat) : dgt a b j < 2 := by
  unfold dgt
  have := rst_lt (a := a) hb j
  exact Nat.div_lt_of_lt_mul (by omega)
def digs (a b j n : Nat) : List Nat := (List.range n).map fun i => dgt a b (j + i)
theorem rst_step {i j : Nat} (h : rst a b i = rst a b j) : ∀ n, rst a b (i + n) = rst a b (j + n)
  | 0 => h
  | n + 1 => by
    show 2 * rst a b (i + n) % b = 2 * rst a b (j + n) % b
    rw [rst_step h n]
theorem per {m s : Nat} (h : Ends (rst a b) m s) (n : Nat) : rst a b (s + n + (m - s)) = rst a b (s + n) := by
  have := rst_step h.eq n
  have := h.lt
  rw [show s + n + (m - s) = m + n by omega]
  assumption
theorem perN {m s : Nat} (h : Ends (rst a b) m s) (n : Nat) : ∀ k, rst a b (s + n + (m - s) * k) = rst a b (s + n)
  | 0 => by simp
  | k + 1 => by
    rw [← perN h n k, Nat.add_assoc s n ((m - s) * k), ← per h (n + (m - s) * k), Nat.mul_succ]
    congr 1
    omega
theorem rst_zero {j : Nat} (h : rst a b j = 0) : ∀ n, rst a b (j + n) = 0
  | 0 => h
  | n + 1 => by
    show 2 * rst a b (j + n) % b = 0
    rw [rst_zero h n]
    simp
theorem nz {m s : Nat} (h : Ends (rst a b) m s) (h0 : rst a b s ≠ 0) (j : Nat) : rst a b j ≠ 0 := fun e => by
  have h1 := perN h 0 j
  have h2 : j ≤ (m - s) * j := Nat.le_mul_of_pos_left _ (by have := h.lt; omega)
  have h3 := rst_zero e (s + 0 + (m - s) * j - j)
  rw [show j + (s + 0 + (m - s) * j - j) = s + 0 + (m - s) * j by omega, h1] at h3
  exact h0 h3
end
structure Fg (a b W : Nat) (A C : List Nat) : Prop where
  pos : 0 < b
  whole : W = a / b
  ends : ∃ m s, Ends (rst a b) m s ∧ A = digs a b 0 s ∧ C = if rst a b s = 0 then [] else digs a b s (m - s)
theorem Fg.scale {a b W : Nat} {A C : List Nat} {g : Nat} (hg : 0 < g) : Fg (g * a) (g * b) W A C ↔ Fg a b W A C := by
  have hr : ∀ j, rst (g * a) (g * b) j = g * rst a b j := fun j => by
    induction j with
    | zero => exact Nat.mul_mod_mul_left ..
    | succ j ih => show 2 * _ % _ = _; rw [ih, ← Nat.mul_assoc, Nat.mul_comm 2 g, Nat.mul_assoc, Nat.mul_mod_mul_left]; rfl
  have hd : ∀ j, dgt (g * a) (g * b) j = dgt a b j := fun j => by
    unfold dgt; rw [hr, ← Nat.mul_assoc, Nat.mul_comm 2 g, Nat.mul_assoc, Nat.mul_div_mul_left _ _ hg]
  have hD : ∀ j n, digs (g * a) (g * b) j n = digs a b j n := fun j n => by unfold digs; exact List.map_congr_left fun i _ => hd _
  have hz : ∀ j, (rst (g * a) (g * b) j = 0) ↔ rst a b j = 0 := fun j => by
    rw [hr, Nat.mul_eq_zero]; omega
  have hE : ∀ m s, Ends (rst (g * a) (g * b)) m s ↔ Ends (rst a b) m s := fun m s => by
    constructor
    · intro e
      refine ⟨e.lt, ?_, fun i j h1 h2 q => e.inj i j h1 h2 (by rw [hr, hr, q])⟩
      have := e.eq
      rw [hr, hr] at this
      exact Nat.eq_of_mul_eq_mul_left hg this
    · intro e
      refine ⟨e.lt, by rw [hr, hr, e.eq], fun i j h1 h2 q => e.inj i j h1 h2 ?_⟩
      rw [hr, hr] at q
      exact Nat.eq_of_mul_eq_mul_left hg q
  constructor
  · rintro ⟨hb, w, m, s, e, ea, ec⟩
    refine ⟨Nat.pos_of_mul_pos_left hb, by rw [w, Nat.mul_div_mul_left _ _ hg], m, s, (hE m s).mp e, by rw [ea, hD], ?_⟩
    rw [ec, hD]
    by_cases c : rst a b s = 0
    · rw [if_pos c, if_pos ((hz s).mpr c)]
    · rw [if_neg c, if_neg fun q => c ((hz s).mp q)]
  · rintro ⟨hb, w, m, s, e, ea, ec⟩
    refine ⟨Nat.mul_pos hg hb, by rw [w, Nat.mul_div_mul_left _ _ hg], m, s, (hE m s).mpr e, by rw [ea, hD], ?_⟩
    rw [ec, hD]
    by_cases c : rst a b s = 0
    · rw [if_pos c, if_pos ((hz s).mpr c)]
    · rw [if_neg c, if_neg fun q => c ((hz s).mp q)]
end MR
namespace MR
section
variable {a b W : Nat} {A C : List Nat}
theorem Fg.turn (h : Fg a b W A C) (h1 : a < b) (hC : C ≠ []) : Fg (b - a) b 0 (A.map fun d => 1 - d) (C.map fun d => 1 - d) := by
  obtain ⟨hb, rfl, m, s, e, rfl, ec⟩ := h
  have hlt := e.lt
  have h0 : rst a b s ≠ 0 := fun z => by rw [if_pos z] at ec; exact hC ec
  rw [if_neg h0] at ec
  have hz := nz e h0
  have ha : rst a b 0 = a := Nat.mod_eq_of_lt h1
  have ha0 := hz 0
  rw [ha] at ha0
  have hstep : ∀ j, 2 * (b - rst a b j) = b * (1 - dgt a b j) + (b - rst a b (j + 1)) := fun j => by
    have e2 := dgt_eq (a := a) (b := b) j
    have l1 := rst_lt (a := a) hb j
    have l2 := rst_lt (a := a) hb (j + 1)
    have l3 := dgt_lt (a := a) hb j
    have : dgt a b j = 0 ∨ dgt a b j = 1 := by omega
    rcases this with c | c <;> rw [c] at e2 ⊢ <;> omega
  have hr : ∀ j, rst (b - a) b j = b - rst a b j := fun j => by
    induction j with
    | zero => rw [ha]; exact Nat.mod_eq_of_lt (by omega)
    | succ j ih =>
      show 2 * _ % b = _
      rw [ih, hstep, Nat.mul_add_mod, Nat.mod_eq_of_lt]
      have := hz (j + 1)
      omega
  have hd : ∀ j, dgt (b - a) b j = 1 - dgt a b j := fun j => by
    unfold dgt
    rw [hr, hstep, Nat.mul_add_div hb, Nat.div_eq_of_lt]
    · rfl
    · have := hz (j + 1)
      omega
  have hD : ∀ j n, digs (b - a) b j n = (digs a b j n).map fun d => 1 - d := fun j n => by
    unfold digs
    rw [List.map_map]
    exact List.map_congr_left fun i _ => hd _
  refine ⟨hb, (Nat.div_eq_of_lt (by omega)).symm, m, s, ⟨hlt, by rw [hr, hr, e.eq], fun i j q1 q2 q => ?_⟩, (hD _ _).symm, ?_⟩
  · rw [hr, hr] at q
    have l1 := rst_lt (a := a) hb i
    have l2 := rst_lt (a := a) hb j
    exact e.inj i j q1 q2 (by omega)
  · rw [hr, if_neg (by have := rst_lt (a := a) hb s; omega), hD, ec]
end
theorem nodup_len : ∀ (b : Nat) (l : List Nat), l.Nodup → (∀ x ∈ l, x < b) → l.length ≤ b
  | 0, l, _, h => by
    cases l with
    | nil => simp
    | cons x l => exact absurd (h x (List.mem_cons_self ..)) (by omega)
  | b + 1, l, hn, h => by
    have := nodup_len b (l.erase b) (hn.erase b) fun x hx => by
      have h1 := h x (List.mem_of_mem_erase hx)
      have h2 : x ≠ b := fun z => by subst z; exact hn.not_mem_erase hx
      omega
    rw [List.length_erase] at this
    split at this <;> omega
theorem few_rests {a b j : Nat} (hb : 0 < b) (h : ∀ i k, i < k → k < j → rst a b i ≠ rst a b k) : j ≤ b := by
  have := nodup_len b ((List.range j).map (rst a b)) (by
    rw [List.nodup_iff_pairwise_ne, List.pairwise_map, List.pairwise_iff_getElem]
    intro i k h1 h2 h3
    rw [List.getElem_range, List.getElem_range]
    simp at h2
    exact h i k h3 h2) fun x hx => by
    obtain ⟨i, _, rfl⟩ := List.mem_map.mp hx
    exact rst_lt hb i
  simpa using this
end MR
namespace MR
def FgQ (q : Rat) (W : Nat) (A C : List Nat) : Prop := Fg q.num.toNat q.den W A C
theorem fgq {x y W : Nat} {A C : List Nat} (hy : 0 < y) : FgQ (Rat.divInt (x : Int) (y : Int)) W A C ↔ Fg x y W A C := by
  obtain ⟨e1, e2⟩ := divInt_parts (x : Int) (y : Int) (by omega)
  rw [Int.natAbs_natCast, Int.natAbs_natCast] at e1 e2
  have hg : 0 < Nat.gcd x y := Nat.gcd_pos_of_pos_right _ hy
  obtain ⟨u, hu⟩ := Nat.gcd_dvd_left x y
  obtain ⟨v, hv⟩ := Nat.gcd_dvd_right x y
  generalize Nat.gcd x y = g at *
  have e3 : ((Rat.divInt (x : Int) (y : Int)).num).toNat = u := by
    rw [e1, hu, ← Int.natCast_ediv, Int.toNat_natCast, Nat.mul_div_cancel_left _ hg]
  have e4 : (Rat.divInt (x : Int) (y : Int)).den = v := by
    have : (((Rat.divInt (x : Int) (y : Int)).den : Nat) : Int) = (v : Nat) := by
      rw [e2, hv, ← Int.natCast_ediv, Nat.mul_div_cancel_left _ hg]
    omega
  unfold FgQ
  rw [e3, e4]
  conv => rhs; rw [hu, hv]
  exact (Fg.scale hg).symm
theorem one_sub_fr {q : Rat} (h0 : 0 ≤ q) (h1 : q.num.toNat < q.den) : ((1 : Int) : Rat) - q = Rat.divInt ((q.den - q.num.toNat : Nat) : Int) (q.den : Int) := by
  have hn : q.num = ((q.num.toNat : Nat) : Int) := (Int.toNat_of_nonneg (Rat.num_nonneg.mpr h0)).symm
  have hd := q.den_pos
  conv => lhs; rw [← Rat.num_divInt_den q, hn]
  rw [show ((1 : Int) : Rat) = Rat.divInt 1 1 from rfl, Rat.divInt_sub_divInt _ _ (by omega) (by omega), Rat.divInt_eq_divInt_iff (by omega) (by omega), Int.natCast_sub (by omega)]
  grind
theorem FgQ.turn {q : Rat} {A C : List Nat} (h : FgQ q 0 A C) (h0 : 0 ≤ q) (hC : C ≠ []) : FgQ (((1 : Int) : Rat) - q) 0 (A.map fun d => 1 - d) (C.map fun d => 1 - d) := by
  have h1 : q.num.toNat < q.den := by
    have := h.whole
    have hd := q.den_pos
    rcases Nat.lt_or_ge q.num.toNat q.den with c | c
    · exact c
    · have := Nat.div_pos c hd
      omega
  rw [one_sub_fr h0 h1, fgq q.den_pos]
  exact Fg.turn h h1 hC
end MR
namespace MR
inductive Sd where
  | toss (a b : Nat) | out (i : Nat)
  deriving DecidableEq, Inhabited
abbrev Mch := List Sd
def Sd.ok (n many : Nat) : Sd → Prop
  | .toss a b => a < many ∧ b < many
  | .out i => i < n
def at' (S : Mch) (s : Nat) : Sd := S.getD s (.out 0)
def fols : Sd → List Nat | .toss a b => [a, b] | .out _ => []
def endN (S : Mch) (i : Nat) : Nat → Nat → Nat
  | 0, s => match at' S s with | .out j => if j = i then 1 else 0 | _ => 0
  | k + 1, s => match at' S s with | .toss a b => endN S i k a + endN S i k b | _ => 0
abbrev Rows := List (Nat × Nat)
def bmp (r : Rows) (a m : Nat) : Rows := if (r.any fun p => p.1 == a) = true then r.map fun p => if p.1 = a then (p.1, p.2 + m) else p else r ++ [(a, m)]
def ledOn (S : Mch) (r : Rows) : Rows := r.foldl (fun f p => (fols (at' S p.1)).foldl (fun f a => bmp f a p.2) f) []
def rowsAt (S : Mch) : Nat → Rows
  | 0 => [(0, 1)]
  | k + 1 => ledOn S (rowsAt S k)
def Sd.map (f : Nat → Nat) : Sd → Sd
  | .toss a b => .toss (f a) (f b)
  | .out i => .out i
end MR
namespace MR
end MR
namespace L2
open PySem PySem.Spec PyProof.Rows
def hashX (k : List Int) : Int := reduceHash (Builtin.Tuple.tupleHashOf (k.map hashInt))
def entX (x : List Int × Addr × Value) : DictEntry := ⟨hashX x.1, .ref x.2.1, x.2.2⟩
abbrev KX : List (List Int × Addr × V) → List (List Int × Addr × Value) → Prop := Paired fun p q => p.1 = q.1 ∧ p.2.1 = q.2.1 ∧ RelV p.2.2 q.2.2
def DtR (h : Heap) (a : Addr) (ks : List (List Int × Addr × V)) : Prop :=
  ks.length ≤ sizeLine ∧ (a == sysModules) = false ∧ ∃ xs, KX ks xs ∧ ∃ o es ep, h.get? a = some o ∧ o.ExactDict ∧ o.data = .dict es ep ∧ es.toList = xs.map entX ∧ (xs.map (·.1)).Nodup
abbrev DtO (a : Addr) (ks : List (List Int × Addr × V)) : HO := .ext fun h => DtR h a ks
def valX (ks : List (List Int × Addr × V)) (k : List Int) : Option V := (ks.find? fun p => decide (p.1 = k)).map (·.2.2)
def putX (ks : List (List Int × Addr × V)) (k : List Int) (b : Addr) (v : V) : List (List Int × Addr × V) :=
  if (valX ks k).isSome then ks.map (fun p => if p.1 = k then (p.1, p.2.1, v) else p) else ks ++ [(k, b, v)]
theorem valX_pos {p : List Int × Addr × V} {ps : List (List Int × Addr × V)} {k : List Int} (e : p.1 = k) : valX (p :: ps) k = some p.2.2 := by simp [valX, List.find?_cons, e]
theorem valX_neg {p : List Int × Addr × V} {ps : List (List Int × Addr × V)} {k : List Int} (e : ¬ p.1 = k) : valX (p :: ps) k = valX ps k := by simp [valX, List.find?_cons, e]
theorem KX.val {ks : List (List Int × Addr × V)} {xs : List (List Int × Addr × Value)} (r : KX ks xs) (k : List Int) : RelO (valX ks k) ((atKey xs k).map (·.2)) := by
  induction r with
  | nil => exact True.intro
  | @cons p q ps qs h t ih =>
    obtain ⟨h1, _, h2⟩ := h
    by_cases e : p.1 = k
    · have e' : q.1 = k := h1.symm.trans e
      have b : atKey (q :: qs) k = some q.2 := by simp [atKey, List.find?_cons, e']
      rw [valX_pos e, b]; exact h2
    · have e' : ¬ q.1 = k := fun z => e (h1.trans z)
      have b : atKey (q :: qs) k = atKey qs k := by simp [atKey, List.find?_cons, e']
      rw [valX_neg e, b]; exact ih
theorem KX.addrs {ks : List (List Int × Addr × V)} {xs : List (List Int × Addr × Value)} (r : KX ks xs) : ks.map (fun p => p.2.1) = xs.map fun x => x.2.1 := by
  induction r with
  | nil => rfl
  | cons h t ih => rw [List.map_cons, List.map_cons, ih, h.2.1]
theorem KX.repl {ks : List (List Int × Addr × V)} {xs : List (List Int × Addr × Value)} (r : KX ks xs) (k : List Int) {y : V} {u : Value} (ry : RelV y u) :
    KX (ks.map fun p => if p.1 = k then (p.1, p.2.1, y) else p) (xs.map (putAt k u)) := by
  induction r with
  | nil => exact .nil
  | @cons p q ps qs h t ih =>
    rw [List.map_cons, List.map_cons]
    refine .cons ?_ ih
    obtain ⟨h1, h2, h3⟩ := h
    unfold putAt
    by_cases e : p.1 = k
    · rw [if_pos e, if_pos (h1.symm.trans e)]; exact ⟨h1, h2, ry⟩
    · rw [if_neg e, if_neg (fun z => e (h1.trans z))]; exact ⟨h1, h2, h3⟩
theorem KX.put {ks : List (List Int × Addr × V)} {xs : List (List Int × Addr × Value)} (r : KX ks xs) (k : List Int) {b : Addr} {y : V} {u : Value} (ry : RelV y u) :
    KX (putX ks k b y) (storedH xs k b u) := by
  have e : (valX ks k).isSome = (atKey xs k).isSome := by rw [(r.val k).isSome_eq, Option.isSome_map]
  unfold putX storedH
  rw [e]
  by_cases q : (atKey xs k).isSome = true
  · rw [if_pos q, if_pos q]; exact r.repl k ry
  · rw [if_neg q, if_neg q]; exact Paired.snoc r ⟨rfl, rfl, ry⟩
theorem length_putX (ks : List (List Int × Addr × V)) (k : List Int) (b : Addr) (v : V) : (putX ks k b v).length ≤ ks.length + 1 := by
  unfold putX
  split <;> simp
theorem dtO_ok {P : Program} {w : World} {H : Hp} {h : Heap} {a : Addr} {ks : List (List Int × Addr × V)} (R : DtR h a ks) : ObjOk P w H h a (DtO a ks) := by
  refine ⟨R, ?_, fun h1 h2 p k => ?_⟩
  · obtain ⟨_, _, _, _, o, _, _, ho, _⟩ := R
    exact ⟨o, ho⟩
  · obtain ⟨z, hs, xs, r, o, es, ep, ho, q⟩ := p
    exact ⟨z, hs, xs, r, o, es, ep, k o ho, q⟩
section
variable {X : Cx} {pins : List (Addr × Obj)} {σ : St} {H : Hp} {s : Shared} {a b : Addr} {y v d : V} {u r : Value} {A : Around} {E : Value → Shared → Prop} {ks : List (List Int × Addr × V)} {k : List Int}
theorem Inv.dtR (I : Inv X pins σ H s) (h : Rd H a (DtO a ks)) : DtR s.heap a ks := by
  have := (show ObjOk X.prog X.w H s.heap a (DtO a ks) from rd_of I.hok h)
  exact this.1
def DtAt (K : PySem.W.Frag) (H : Hp) (a : Addr) (ks : List (List Int × Addr × V)) : Prop := Rd H a (DtO a ks) ∧ ∀ p ∈ ks, SqT K H p.2.1 (p.1.map V.int)
theorem KX.mem {ks : List (List Int × Addr × V)} {xs : List (List Int × Addr × Value)} (r : KX ks xs) : ∀ x ∈ xs, ∃ p ∈ ks, p.1 = x.1 ∧ p.2.1 = x.2.1 := by
  induction r with
  | nil => intro x hx; exact nomatch hx
  | @cons p q ps qs h t ih =>
    intro x hx
    rcases List.mem_cons.mp hx with rfl | hx
    · exact ⟨p, List.mem_cons_self, h.1, h.2.1⟩
    · obtain ⟨z, z1, z2⟩ := ih x hx
      exact ⟨z, List.mem_cons_of_mem _ z1, z2⟩
theorem Inv.dtH (I : Inv X pins σ H s) (h : DtAt X.K H a ks) : ks.length ≤ sizeLine ∧ (a == sysModules) = false ∧ ∃ xs, KX ks xs ∧ s.heap.DictOfH (tupleKind (intKind X.prog X.w)) a xs := by
  obtain ⟨z, hs, xs, r, o, es, ep, ho, hx, hd, he, hn⟩ := I.dtR h.1
  refine ⟨z, hs, xs, r, o, es, ep, ho, hx, hd, he, fun x hx => ?_, hn⟩
  obtain ⟨p, hp, e1, e2⟩ := r.mem x hx
  have := I.isT (h.2 p hp)
  rw [e1, e2] at this
  exact this
theorem x_get2 {Q : Value → Shared → Prop} (hu : A.units + 1 < cLine) (I : Inv X pins σ H s) (h : DtAt X.K H a ks) (hb : SqT X.K H b (k.map V.int)) (rd : RelV d r) (q : ∀ w' s', Inv X pins σ H s' → RelV ((valX ks k).getD d) w' → Q w' s') :
    wpAny (model X.prog X.w) A (call (.builtin "dict.get") [.ref a, .ref b, r]) Q E s := by
  obtain ⟨z, hd, xs, rel, dd⟩ := I.dtH h
  exact call_meetsIn PySem.F.slot_dict_get dd.typeIs PySem.F.entry_dict_get (PySem.F.args_dict_get_3 _ _ _) (meetsH_dict_get_default (tupleKind (intKind X.prog X.w)) a b hd r) ⟨tupleKind_room_in1 hu, k, xs, I.isT hb, dd, q _ _ (I.tok _) ((rel.val k).getD rd)⟩
theorem x_getItem {Q : Value → Shared → Prop} (hu : A.units + 1 < cLine) (I : Inv X pins σ H s) (h : DtAt X.K H a ks) (hb : SqT X.K H b (k.map V.int)) (hv : valX ks k = some v) (q : ∀ w' s', Inv X pins σ H s' → RelV v w' → Q w' s') :
    wpAny (model X.prog X.w) A (getItem (.ref a) (.ref b)) Q E s := by
  obtain ⟨z, hd, xs, rel, dd⟩ := I.dtH h
  obtain ⟨w', hw, rw'⟩ := RelO.some_of (v := v) (o := (atKey xs k).map (·.2)) (by rw [← hv]; exact rel.val k)
  obtain ⟨p, hp, hp2⟩ := Option.map_eq_some_iff.mp hw
  refine wpAny_getItem_heap (tupleKind_room_in1 hu) (I.isT hb) dd hp ?_
  rw [hp2]
  exact q w' _ (I.tok _) rw'
theorem x_setItem {Q : Unit → Shared → Prop} (hu : A.units + 1 < cLine) (I : Inv X pins σ H s) (hH : H a = some (DtO a ks)) (hk : ∀ p ∈ ks, SqT X.K H p.2.1 (p.1.map V.int)) (hl : ks.length < sizeLine) (hb : SqT X.K H b (k.map V.int)) (rv : RelV v r)
    (q : ∀ s', Inv X pins σ (upd H a (DtO a (putX ks k b v))) s' → Q () s') : wpAny (model X.prog X.w) A (setItem (.ref a) (.ref b) r) Q E s := by
  obtain ⟨z, hd, xs, rel, dd⟩ := I.dtH (a := a) (ks := ks) ⟨.inl hH, hk⟩
  have hz : xs.length ≤ sizeLine := by rw [← Paired.length rel]; exact z
  refine wpAny_setItem_heap (hsz := hz) (tupleKind_room_in1 hu) (I.isT hb) dd fun h' dd' hs => q _ ?_
  obtain ⟨o, es, ep, ho, h2, h3, h4, _, h5⟩ := dd'
  refine d_write I (by rw [hH]; exact True.intro) hs ⟨o, ho⟩ (dtO_ok ⟨?_, hd, _, rel.put k rv, o, es, ep, ho, h2, h3, h4, h5⟩)
  have := length_putX ks k b v
  omega
theorem x_at (I : Inv X pins σ H s) (h : Rd H a (DtO a ks)) : s.TypeIs (.ref a) "dict" ∧ (∀ b, Value.ref a = .ref b → ∃ ob, s.heap.get? b = some ob ∧ ob.dict = none) ∧ (a == sysModules) = false := by
  obtain ⟨z, hs, xs, r, o, es, ep, ho, hx, hd, he, hn⟩ := I.dtR h
  exact ⟨⟨o, ho, hx.1⟩, fun b q => by cases q; exact ⟨o, ho, hx.2.1⟩, hs⟩
end
def tDNewX : TE := fun _ H Q => ∀ p, H p = none → Q (.ref p) (upd H p (DtO p []))
def tDGetX (K : PySem.W.Frag) (td ty : TE) : TE := fun σ H Q => td σ H fun x H1 => ty σ H1 fun y H2 => ∃ a ks b k v, x = .ref a ∧ y = .ref b ∧ DtAt K H2 a ks ∧ SqT K H2 b (k.map V.int) ∧ valX ks k = some v ∧ Q v H2
def tDGet2X (K : PySem.W.Frag) (td ty tx : TE) : TE := fun σ H Q => td σ H fun x H1 => ∃ a ks1, x = .ref a ∧ Rd H1 a (DtO a ks1) ∧ ty σ H1 fun y H2 => tx σ H2 fun z H3 => ∃ ks b k, y = .ref b ∧ DtAt K H3 a ks ∧ SqT K H3 b (k.map V.int) ∧ Q ((valX ks k).getD z) H3
def sDPutX (K : PySem.W.Frag) (td ty tv : TE) : TS := fun D σ H => tv σ H fun v H1 => td σ H1 fun x H2 => ty σ H2 fun y H3 => ∃ a ks b k, x = .ref a ∧ y = .ref b ∧ H3 a = some (DtO a ks) ∧ (∀ p ∈ ks, SqT K H3 p.2.1 (p.1.map V.int)) ∧ ks.length < sizeLine ∧ SqT K H3 b (k.map V.int) ∧ D.nx σ (upd H3 a (DtO a (putX ks k b v)))
section
variable {X : Cx} {o i e f value : Expr} {pos pos' tpos apos cpos : Pos} {td ty tv tx : TE}
theorem pe_dnewX : PE X (.Dict [] [] pos) tDNewX := ⟨fun pins s σ H Q I h =>
  wpAny_Dict_empty ⟨.ref s.heap.objs.size, _, I.laid (a := s.heap.objs.size) (o := DtO s.heap.objs.size []) (t' := s.toks) (fun _ _ q => Heap.get?_push_of_some _ q) (Nat.le_refl _)
    (dtO_ok ⟨Nat.zero_le _, beq_eq_false_iff_ne.mpr (Ne.symm (Nat.ne_of_lt I.big)), [], .nil, _, #[], 0, Heap.get?_push_size _ rfl, ⟨rfl, rfl, rfl⟩, rfl, rfl, List.nodup_nil⟩), rfl, h _ (I.hok.fresh (Nat.le_refl _))⟩⟩
theorem pe_dgetX (hu : X.A.units + 1 < cLine) (ho : PE X o td) (hi : PE X i ty) (hs : NoSl i) : PE X (.Subscript o i pos) (tDGetX X.K td ty) := by
  refine ⟨fun pins s σ H Q I h => ?_⟩
  refine subD_of PySem.F.slot_dict_getitem.lookup hs (thn (ho.run pins s σ H _ I h) fun u s1 ⟨x, H1, I1, rx, q1⟩ => thn (hi.run pins s1 σ H1 _ I1 q1) fun iv s2 ⟨y, H2, I2, ry, a, ks, b, k, v, ex, ey, g, gb, gv, q2⟩ => ?_)
  subst ex ey
  obtain rfl : u = Value.ref a := rx
  obtain rfl : iv = Value.ref b := ry
  exact ⟨(x_at I2 g.1).1, x_getItem hu I2 g gb gv fun w' s3 I3 rw' => ⟨v, H2, I3, rw', q2⟩⟩
theorem pe_dget2X (hu : X.A.units + 1 < cLine) (ho : PE X o td) (he : PE X e ty) (hf : PE X f tx) (m : M2 X o "get" apos e f cpos) : PE X (.Call (.Attribute o "get" apos) [e, f] [] cpos) (tDGet2X X.K td ty tx) := by
  refine ⟨fun pins s σ H Q I h => ?_⟩
  refine wpAny_Call_method m.base m.few m.line PySem.F.plainAttrs_dict PySem.F.slot_dict_get PySem.F.type_dict_get (thn (ho.run pins s σ H _ I h) fun u s1 ⟨x, H1, I1, rx, a, ks1, ex, d, q1⟩ => ?_)
  subst ex
  obtain rfl : u = Value.ref a := rx
  obtain ⟨t1, t2, _⟩ := x_at I1 d
  refine ⟨t1, t2, ?_⟩
  rw [m.trees]
  refine Calls.callWith_builtin rfl (Calls.evalArgs_plain (Calls.spliced_cons (thn (he.run pins s1 σ H1 _ I1 q1) fun iv s2 ⟨y, H2, I2, ry, q2⟩ =>
    Calls.spliced_cons (thn (hf.run pins s2 σ H2 _ I2 q2) fun fv s3 ⟨z, H3, I3, rz, ks, b, k, ey, g, gb, q3⟩ => Calls.spliced_nil ?_))))
  subst ey
  obtain rfl : iv = Value.ref b := ry
  exact x_get2 hu I3 g gb rz fun w' s4 I4 rw' => ⟨_, H3, I4, rw', q3⟩
theorem ps_dputX (hu : X.A.units + 1 < cLine) (ho : PE X o td) (hi : PE X i ty) (hv : PE X value tv) (hs : swapsWith value (some (.Subscript o i pos')) pos.line X.env = pure false) :
    PS X (.Assign [.Subscript o i pos'] value pos) (sDPutX X.K td ty tv) := by
  refine ⟨fun pins s σ H D I h => ?_⟩
  refine wpAny_Assign_Subscript (thn (hv.run pins s σ H _ I h) fun r s1 ⟨v, H1, I1, rv, q1⟩ => thn (ho.run pins s1 σ H1 _ I1 q1) fun u s2 ⟨x, H2, I2, rx, q2⟩ => thn (hi.run pins s2 σ H2 _ I2 q2) fun iv s3 ⟨y, H3, I3, ry, a, ks, b, k, ex, ey, g, gk, gl, gb, q3⟩ => ?_) hs
  subst ex ey
  obtain rfl : u = Value.ref a := rx
  obtain rfl : iv = Value.ref b := ry
  exact x_setItem hu I3 g gk gl gb rv fun s4 I4 => ⟨σ, _, I4, q3⟩
end
section
variable {X : Cx} {pins : List (Addr × Obj)} {σ : St} {H : Hp} {s : Shared} {d : Addr} {o : Obj} {ks : List (List Int × Addr × V)}
end
section
variable {P : Program} {w : World} {K : PySem.W.Frag} {tg : Expr} {d : Addr} {o : Obj} {es : Array DictEntry} {ep : Nat}
end
section
variable {X : Cx} {tg e : Expr} {td : TE}
end
end L2
namespace L2
open PySem PySem.Spec PyProof.Rows
abbrev KN := List Int × Int
def nkey (k : KN) : NestedKey := .tup [.tup (k.1.map .num), .num k.2]
def nmh : NestedKey → Int | .num i => hashInt i | _ => 0
def hshN : NestedKey → Int
  | .tup [.tup ks, .num r] => reduceHash (Builtin.Tuple.tupleHashOf [reduceHash (Builtin.Tuple.tupleHashOf (ks.map nmh)), hashInt r])
  | _ => 0
theorem hashes_num (w : World) : ∀ l : List Int, NestedKey.hashes w (l.map .num) = (l.map NestedKey.num).map nmh
  | [] => rfl
  | i :: l => by
    rw [List.map_cons, List.map_cons, NestedKey.hashes, hashes_num w l, NestedKey.hash] <;> rfl
theorem hshN_eq (w : World) (k : KN) : hshN (nkey k) = (nkey k).hash w := by
  unfold nkey
  rw [NestedKey.hash, NestedKey.hashes, NestedKey.hashes, NestedKey.hashes, NestedKey.hash, NestedKey.hash, hashes_num]
  rfl
theorem nums_inj : ∀ {a b : List Int}, a.map NestedKey.num = b.map NestedKey.num → a = b
  | [], [], _ => rfl
  | x :: a, y :: b, h => by
    rw [List.map_cons, List.map_cons] at h
    injection h with h1 h2
    injection h1 with h1
    rw [h1, nums_inj h2]
  | [], _ :: _, h => by cases h
  | _ :: _, [], h => by cases h
theorem nkey_inj {a b : KN} (h : nkey a = nkey b) : a = b := by
  unfold nkey at h
  injection h with h
  injection h with h1 h2
  injection h1 with h1
  injection h2 with h2 _
  injection h2 with h2
  exact Prod.ext (nums_inj h1) h2
theorem depth_nums : ∀ l : List Int, NestedKey.depthAll (l.map .num) = 0
  | [] => by rw [List.map_nil, NestedKey.depthAll]
  | i :: l => by rw [List.map_cons, NestedKey.depthAll, depth_nums l, NestedKey.depth]; rfl
theorem depth_nkey (k : KN) : (nkey k).depth ≤ 8 := by
  unfold nkey
  rw [NestedKey.depth, NestedKey.depthAll, NestedKey.depthAll, NestedKey.depthAll, NestedKey.depth, NestedKey.depth, depth_nums]
  decide
def entN (x : NestedKey × Addr × Value) : DictEntry := ⟨hshN x.1, .ref x.2.1, x.2.2⟩
abbrev KXN : List (KN × Addr × V) → List (NestedKey × Addr × Value) → Prop := Paired fun p q => nkey p.1 = q.1 ∧ p.2.1 = q.2.1 ∧ RelV p.2.2 q.2.2
theorem KXN.ents {P : Program} {w : World} {ks : List (KN × Addr × V)} {xs : List (NestedKey × Addr × Value)} (r : KXN ks xs) : xs.map entN = xs.map (entryOfKey (nestedKind P w)) := by
  induction r with
  | nil => rfl
  | @cons p q ps qs h t ih =>
    rw [List.map_cons, List.map_cons, ih]
    congr 1
    unfold entN entryOfKey
    rw [← h.1, hshN_eq w]
    rfl
def DtRN (h : Heap) (a : Addr) (ks : List (KN × Addr × V)) : Prop :=
  ks.length ≤ sizeLine ∧ (a == sysModules) = false ∧ ∃ xs, KXN ks xs ∧ ∃ o es ep, h.get? a = some o ∧ o.ExactDict ∧ o.data = .dict es ep ∧ es.toList = xs.map entN ∧ (xs.map (·.1)).Nodup
abbrev DtN (a : Addr) (ks : List (KN × Addr × V)) : HO := .ext fun h => DtRN h a ks
def valN (ks : List (KN × Addr × V)) (k : KN) : Option V := (ks.find? fun p => decide (p.1 = k)).map (·.2.2)
def putN (ks : List (KN × Addr × V)) (k : KN) (b : Addr) (v : V) : List (KN × Addr × V) :=
  if (valN ks k).isSome then ks.map (fun p => if p.1 = k then (p.1, p.2.1, v) else p) else ks ++ [(k, b, v)]
theorem valN_pos {p : KN × Addr × V} {ps : List (KN × Addr × V)} {k : KN} (e : p.1 = k) : valN (p :: ps) k = some p.2.2 := by simp [valN, List.find?_cons, e]
theorem valN_neg {p : KN × Addr × V} {ps : List (KN × Addr × V)} {k : KN} (e : ¬ p.1 = k) : valN (p :: ps) k = valN ps k := by simp [valN, List.find?_cons, e]
theorem KXN.val {ks : List (KN × Addr × V)} {xs : List (NestedKey × Addr × Value)} (r : KXN ks xs) (k : KN) : RelO (valN ks k) ((atKey xs (nkey k)).map (·.2)) := by
  induction r with
  | nil => exact True.intro
  | @cons p q ps qs h t ih =>
    obtain ⟨h1, _, h2⟩ := h
    by_cases e : p.1 = k
    · have e' : q.1 = nkey k := h1.symm.trans (congrArg nkey e)
      have b : atKey (q :: qs) (nkey k) = some q.2 := by simp [atKey, List.find?_cons, e']
      rw [valN_pos e, b]; exact h2
    · have e' : ¬ q.1 = nkey k := fun z => e (nkey_inj (h1.trans z))
      have b : atKey (q :: qs) (nkey k) = atKey qs (nkey k) := by simp [atKey, List.find?_cons, e']
      rw [valN_neg e, b]; exact ih
theorem KXN.repl {ks : List (KN × Addr × V)} {xs : List (NestedKey × Addr × Value)} (r : KXN ks xs) (k : KN) {y : V} {u : Value} (ry : RelV y u) :
    KXN (ks.map fun p => if p.1 = k then (p.1, p.2.1, y) else p) (xs.map (putAt (nkey k) u)) := by
  induction r with
  | nil => exact .nil
  | @cons p q ps qs h t ih =>
    rw [List.map_cons, List.map_cons]
    refine .cons ?_ ih
    obtain ⟨h1, h2, h3⟩ := h
    unfold putAt
    by_cases e : p.1 = k
    · rw [if_pos e, if_pos (h1.symm.trans (congrArg nkey e))]; exact ⟨h1, h2, ry⟩
    · rw [if_neg e, if_neg (fun z => e (nkey_inj (h1.trans z)))]; exact ⟨h1, h2, h3⟩
theorem KXN.put {ks : List (KN × Addr × V)} {xs : List (NestedKey × Addr × Value)} (r : KXN ks xs) (k : KN) {b : Addr} {y : V} {u : Value} (ry : RelV y u) :
    KXN (putN ks k b y) (storedH xs (nkey k) b u) := by
  have e : (valN ks k).isSome = (atKey xs (nkey k)).isSome := by rw [(r.val k).isSome_eq, Option.isSome_map]
  unfold putN storedH
  rw [e]
  by_cases q : (atKey xs (nkey k)).isSome = true
  · rw [if_pos q, if_pos q]; exact r.repl k ry
  · rw [if_neg q, if_neg q]; exact Paired.snoc r ⟨rfl, rfl, ry⟩
theorem length_putN (ks : List (KN × Addr × V)) (k : KN) (b : Addr) (v : V) : (putN ks k b v).length ≤ ks.length + 1 := by
  unfold putN
  split <;> simp
theorem dtN_ok {P : Program} {w : World} {H : Hp} {h : Heap} {a : Addr} {ks : List (KN × Addr × V)} (R : DtRN h a ks) : ObjOk P w H h a (DtN a ks) := by
  refine ⟨R, ?_, fun h1 h2 p k => ?_⟩
  · obtain ⟨_, _, _, _, o, _, _, ho, _⟩ := R
    exact ⟨o, ho⟩
  · obtain ⟨z, hs, xs, r, o, es, ep, ho, q⟩ := p
    exact ⟨z, hs, xs, r, o, es, ep, k o ho, q⟩
def SqN (K : PySem.W.Frag) (H : Hp) (b : Addr) (k : KN) : Prop := ∃ c, SqT K H b [V.ref c, V.int k.2] ∧ SqT K H c (k.1.map V.int)
section
variable {X : Cx} {pins : List (Addr × Obj)} {σ : St} {H : Hp} {s : Shared} {a b : Addr} {y v d : V} {u r : Value} {A : Around} {E : Value → Shared → Prop} {ks : List (KN × Addr × V)} {k : KN}
theorem nest_ints {h : Heap} : ∀ {l : List Int} {us : List Value}, Vals (l.map V.int) us → NestedAll h (l.map .num) us
  | [], _, .nil => .nil
  | n :: l, _, .cons r t => by
    obtain ⟨tk, rfl⟩ := r
    exact .cons (.int n tk) (nest_ints t)
theorem Inv.isN (I : Inv X pins σ H s) (h : SqN X.K H b k) : (nestedKind X.prog X.w).is s.heap (nkey k) b := by
  obtain ⟨c, h1, h2⟩ := h
  obtain ⟨its, r, ⟨o, ho, hc, n, hd⟩, _⟩ := I.tuple h1
  obtain ⟨its2, r2, ⟨o2, ho2, hc2, n2, hd2⟩, _⟩ := I.tuple h2
  refine ⟨?_, depth_nkey k⟩
  unfold nkey
  refine NestedIs.tup ho hc hd ?_
  rw [show its.toArray.toList = its by simp]
  cases r with
  | cons q1 t =>
    cases t with
    | cons q2 t2 =>
      cases t2 with
      | nil =>
        obtain ⟨tk, rfl⟩ := q2
        cases q1
        exact .cons (.tup ho2 hc2 hd2 (by rw [show its2.toArray.toList = its2 by simp]; exact nest_ints r2)) (.cons (.int _ tk) .nil)
theorem Inv.dtRN (I : Inv X pins σ H s) (h : Rd H a (DtN a ks)) : DtRN s.heap a ks := by
  have := (show ObjOk X.prog X.w H s.heap a (DtN a ks) from rd_of I.hok h)
  exact this.1
def DtAtN (K : PySem.W.Frag) (H : Hp) (a : Addr) (ks : List (KN × Addr × V)) : Prop := Rd H a (DtN a ks) ∧ ∀ p ∈ ks, SqN K H p.2.1 p.1
theorem KXN.mem {ks : List (KN × Addr × V)} {xs : List (NestedKey × Addr × Value)} (r : KXN ks xs) : ∀ x ∈ xs, ∃ p ∈ ks, nkey p.1 = x.1 ∧ p.2.1 = x.2.1 := by
  induction r with
  | nil => intro x hx; exact nomatch hx
  | @cons p q ps qs h t ih =>
    intro x hx
    rcases List.mem_cons.mp hx with rfl | hx
    · exact ⟨p, List.mem_cons_self, h.1, h.2.1⟩
    · obtain ⟨z, z1, z2⟩ := ih x hx
      exact ⟨z, List.mem_cons_of_mem _ z1, z2⟩
theorem Inv.dtHN (I : Inv X pins σ H s) (h : DtAtN X.K H a ks) : ks.length ≤ sizeLine ∧ (a == sysModules) = false ∧ ∃ xs, KXN ks xs ∧ s.heap.DictOfH (nestedKind X.prog X.w) a xs := by
  obtain ⟨z, hs, xs, r, o, es, ep, ho, hx, hd, he, hn⟩ := I.dtRN h.1
  refine ⟨z, hs, xs, r, o, es, ep, ho, hx, hd, he.trans r.ents, fun x hx => ?_, hn⟩
  obtain ⟨p, hp, e1, e2⟩ := r.mem x hx
  have := I.isN (h.2 p hp)
  rw [e1, e2] at this
  exact this
theorem room_in1N {P : Program} {w : World} (hu : A.units + 9 < cLine) : (nestedKind P w).room A.in1 := by
  show A.units + 1 + 8 < cLine
  omega
theorem x_get2N {Q : Value → Shared → Prop} (hu : A.units + 9 < cLine) (I : Inv X pins σ H s) (h : DtAtN X.K H a ks) (hb : SqN X.K H b k) (rd : RelV d r) (q : ∀ w' s', Inv X pins σ H s' → RelV ((valN ks k).getD d) w' → Q w' s') :
    wpAny (model X.prog X.w) A (call (.builtin "dict.get") [.ref a, .ref b, r]) Q E s := by
  obtain ⟨z, hd, xs, rel, dd⟩ := I.dtHN h
  exact call_meetsIn PySem.F.slot_dict_get dd.typeIs PySem.F.entry_dict_get (PySem.F.args_dict_get_3 _ _ _) (meetsH_dict_get_default (nestedKind X.prog X.w) a b hd r) ⟨room_in1N hu, nkey k, xs, I.isN hb, dd, q _ _ (I.tok _) ((rel.val k).getD rd)⟩
theorem x_setItemN {Q : Unit → Shared → Prop} (hu : A.units + 9 < cLine) (I : Inv X pins σ H s) (hH : H a = some (DtN a ks)) (hk : ∀ p ∈ ks, SqN X.K H p.2.1 p.1) (hl : ks.length < sizeLine) (hb : SqN X.K H b k) (rv : RelV v r)
    (q : ∀ s', Inv X pins σ (upd H a (DtN a (putN ks k b v))) s' → Q () s') : wpAny (model X.prog X.w) A (setItem (.ref a) (.ref b) r) Q E s := by
  obtain ⟨z, hd, xs, rel, dd⟩ := I.dtHN (a := a) (ks := ks) ⟨.inl hH, hk⟩
  have hz : xs.length ≤ sizeLine := by rw [← Paired.length rel]; exact z
  refine wpAny_setItem_heap (hsz := hz) (room_in1N hu) (I.isN hb) dd fun h' dd' hs => q _ ?_
  obtain ⟨o, es, ep, ho, h2, h3, h4, _, h5⟩ := dd'
  refine d_write I (by rw [hH]; exact True.intro) hs ⟨o, ho⟩ (dtN_ok ⟨?_, hd, _, rel.put k rv, o, es, ep, ho, h2, h3, h4.trans (rel.put k rv).ents.symm, h5⟩)
  have := length_putN ks k b v
  omega
theorem x_atN (I : Inv X pins σ H s) (h : Rd H a (DtN a ks)) : s.TypeIs (.ref a) "dict" ∧ (∀ b, Value.ref a = .ref b → ∃ ob, s.heap.get? b = some ob ∧ ob.dict = none) ∧ (a == sysModules) = false := by
  obtain ⟨z, hs, xs, r, o, es, ep, ho, hx, hd, he, hn⟩ := I.dtRN h
  exact ⟨⟨o, ho, hx.1⟩, fun b q => by cases q; exact ⟨o, ho, hx.2.1⟩, hs⟩
end
def tDNewN : TE := fun _ H Q => ∀ p, H p = none → Q (.ref p) (upd H p (DtN p []))
def tDGet2N (K : PySem.W.Frag) (td ty tx : TE) : TE := fun σ H Q => td σ H fun x H1 => ∃ a ks1, x = .ref a ∧ Rd H1 a (DtN a ks1) ∧ ty σ H1 fun y H2 => tx σ H2 fun z H3 => ∃ ks b k, y = .ref b ∧ DtAtN K H3 a ks ∧ SqN K H3 b k ∧ Q ((valN ks k).getD z) H3
def sDPutN (K : PySem.W.Frag) (td ty tv : TE) : TS := fun D σ H => tv σ H fun v H1 => td σ H1 fun x H2 => ty σ H2 fun y H3 => ∃ a ks b k, x = .ref a ∧ y = .ref b ∧ H3 a = some (DtN a ks) ∧ (∀ p ∈ ks, SqN K H3 p.2.1 p.1) ∧ ks.length < sizeLine ∧ SqN K H3 b k ∧ D.nx σ (upd H3 a (DtN a (putN ks k b v)))
section
variable {X : Cx} {o i e f value : Expr} {pos pos' tpos apos cpos : Pos} {td ty tv tx : TE}
theorem pe_dnewN : PE X (.Dict [] [] pos) tDNewN := ⟨fun pins s σ H Q I h =>
  wpAny_Dict_empty ⟨.ref s.heap.objs.size, _, I.laid (a := s.heap.objs.size) (o := DtN s.heap.objs.size []) (t' := s.toks) (fun _ _ q => Heap.get?_push_of_some _ q) (Nat.le_refl _)
    (dtN_ok ⟨Nat.zero_le _, beq_eq_false_iff_ne.mpr (Ne.symm (Nat.ne_of_lt I.big)), [], .nil, _, #[], 0, Heap.get?_push_size _ rfl, ⟨rfl, rfl, rfl⟩, rfl, rfl, List.nodup_nil⟩), rfl, h _ (I.hok.fresh (Nat.le_refl _))⟩⟩
theorem pe_dget2N (hu : X.A.units + 9 < cLine) (ho : PE X o td) (he : PE X e ty) (hf : PE X f tx) (m : M2 X o "get" apos e f cpos) : PE X (.Call (.Attribute o "get" apos) [e, f] [] cpos) (tDGet2N X.K td ty tx) := by
  refine ⟨fun pins s σ H Q I h => ?_⟩
  refine wpAny_Call_method m.base m.few m.line PySem.F.plainAttrs_dict PySem.F.slot_dict_get PySem.F.type_dict_get (thn (ho.run pins s σ H _ I h) fun u s1 ⟨x, H1, I1, rx, a, ks1, ex, d, q1⟩ => ?_)
  subst ex
  obtain rfl : u = Value.ref a := rx
  obtain ⟨t1, t2, _⟩ := x_atN I1 d
  refine ⟨t1, t2, ?_⟩
  rw [m.trees]
  refine Calls.callWith_builtin rfl (Calls.evalArgs_plain (Calls.spliced_cons (thn (he.run pins s1 σ H1 _ I1 q1) fun iv s2 ⟨y, H2, I2, ry, q2⟩ =>
    Calls.spliced_cons (thn (hf.run pins s2 σ H2 _ I2 q2) fun fv s3 ⟨z, H3, I3, rz, ks, b, k, ey, g, gb, q3⟩ => Calls.spliced_nil ?_))))
  subst ey
  obtain rfl : iv = Value.ref b := ry
  exact x_get2N hu I3 g gb rz fun w' s4 I4 rw' => ⟨_, H3, I4, rw', q3⟩
theorem ps_dputN (hu : X.A.units + 9 < cLine) (ho : PE X o td) (hi : PE X i ty) (hv : PE X value tv) (hs : swapsWith value (some (.Subscript o i pos')) pos.line X.env = pure false) :
    PS X (.Assign [.Subscript o i pos'] value pos) (sDPutN X.K td ty tv) := by
  refine ⟨fun pins s σ H D I h => ?_⟩
  refine wpAny_Assign_Subscript (thn (hv.run pins s σ H _ I h) fun r s1 ⟨v, H1, I1, rv, q1⟩ => thn (ho.run pins s1 σ H1 _ I1 q1) fun u s2 ⟨x, H2, I2, rx, q2⟩ => thn (hi.run pins s2 σ H2 _ I2 q2) fun iv s3 ⟨y, H3, I3, ry, a, ks, b, k, ex, ey, g, gk, gl, gb, q3⟩ => ?_) hs
  subst ex ey
  obtain rfl : u = Value.ref a := rx
  obtain rfl : iv = Value.ref b := ry
  exact x_setItemN hu I3 g gk gl gb rv fun s4 I4 => ⟨σ, _, I4, q3⟩
end
def ItvN (d : Addr) (o : Obj) (ks : List (KN × Addr × V)) : It :=
  ⟨fun i H => H d = some (.frz o (DtN d ks)) ∧ i < ks.length, fun i H x H' => H' = H ∧ ∃ p, ks[i]? = some p ∧ x = p.2.2, fun i H => H d = some (.frz o (DtN d ks)) ∧ ks.length ≤ i⟩
section
variable {X : Cx} {pins : List (Addr × Obj)} {σ : St} {H : Hp} {s : Shared} {d : Addr} {o : Obj} {ks : List (KN × Addr × V)}
theorem Inv.frzN (I : Inv X pins σ H s) (h : H d = some (.frz o (DtN d ks))) :
    (d == sysModules) = false ∧ s.heap.get? d = some o ∧ o.ExactDict ∧ ∃ (es : Array DictEntry) (ep : Nat), o.data = .dict es ep ∧ es.size = ks.length ∧
      ∀ (i : Nat) p, ks[i]? = some p → ∃ (en : DictEntry), es[i]? = some en ∧ en.key = .ref p.2.1 ∧ RelV p.2.2 en.val := by
  obtain ⟨hd, z⟩ := I.hok d _ h
  have R : DtRN s.heap d ks := (show ObjOk X.prog X.w H s.heap d (DtN d ks) from z).1
  obtain ⟨_, hs, xs, pr, o', es, ep, ho, hx, hdt, he, _⟩ := R
  rw [hd] at ho
  cases ho
  refine ⟨hs, hd, hx, es, ep, hdt, ?_, fun i p e => ?_⟩
  · have l1 : es.size = xs.length := by rw [← Array.length_toList, he, List.length_map]
    have l2 : ks.length = xs.length := Paired.length pr
    omega
  · obtain ⟨b, hb, e1, e2, e3⟩ := paired_get pr e
    have q : es[i]? = (xs[i]?).map entN := by rw [← Array.getElem?_toList, he, List.getElem?_map]
    rw [hb] at q
    exact ⟨_, q, by rw [e2]; rfl, e3⟩
end
section
variable {P : Program} {w : World} {K : PySem.W.Frag} {tg : Expr} {d : Addr} {o : Obj} {es : Array DictEntry} {ep : Nat}
theorem turn_valsN {ks : List (KN × Addr × V)} (it : Addr) (hod : o.data = .dict es ep) : Turn P w K tg (ItvN d o ks) [it] it (fun i h => h.IsValIter it d i ks.length ep) where
  mem := by simp
  obj := fun i h st b hb => by
    have e : b = it := by simpa using hb
    subst e
    obtain ⟨oi, e, c, dd⟩ := st
    exact ⟨oi, e, fun v z => by rw [dd] at z; cases z⟩
  keep := fun i h h' st k => st.at fun oi e => k it (by simp) oi e
  item := by
    intro X hP hw hK hc i pins s σ H E I hf st hg
    subst hP hw hK
    obtain ⟨hd, hi⟩ := hg
    obtain ⟨f0, f1, f2, f3, f4, f5⟩ := hf it (by simp)
    obtain ⟨hs, hgd, hx, es', ep', hdt, hsz, ent⟩ := I.frzN hd
    obtain ⟨rfl, rfl⟩ := dict_ep hod hdt
    obtain ⟨p, hkv⟩ : ∃ p, ks[i]? = some p := ⟨ks[i], List.getElem?_eq_getElem hi⟩
    obtain ⟨en, hen, hkey, hval⟩ := ent i p hkv
    have hie : i < es'.size := by omega
    have een : es'[i] = en := by
      rw [Array.getElem?_eq_getElem hie] at hen
      exact Option.some.inj hen
    rw [← hsz] at st
    refine wpAny_pyNext_values_item_raw st ⟨o, hgd, hx, hdt⟩ hie fun h' st' sb => ?_
    have I1 : Inv X pins σ H { s with heap := h' } := I.turned (t' := s.toks) (fun b ob hb e => (sb.2 b hb).trans e) f0 f1 f3 f4 f5
    obtain ⟨oi, e, c, dd⟩ := id st'
    refine ⟨es'[i].val, rfl, go_of (s := { s with heap := h' }) e c dd (by decide) ⟨p.2.2, H, I1, by rw [een]; exact hval, ⟨rfl, p, hkv, rfl⟩, ?_, fun b hb => (hf b hb).1⟩⟩
    show h'.IsValIter it d (i + 1) ks.length _
    rw [← hsz]
    exact st'
  done := by
    intro X hP hw hK hc i pins s σ H E I hf st hg
    subst hP hw hK
    obtain ⟨hd, hi⟩ := hg
    obtain ⟨f0, f1, f2, f3, f4, f5⟩ := hf it (by simp)
    obtain ⟨hs, hgd, hx, es', ep', hdt, hsz, ent⟩ := I.frzN hd
    obtain ⟨rfl, rfl⟩ := dict_ep hod hdt
    rw [← hsz] at st
    exact wpAny_pyNext_values_end_raw (I.ok.hd hc) st ⟨o, hgd, hx, hdt⟩ (by omega) fun h' eb => ⟨rfl, I.turned (t' := s.toks) (fun b ob hb e => eb b ob hb e) f0 f1 f3 f4 f5⟩
  self := fun A i s Q E st h => wpAny_pyIter_valiter st h
end
def iValsN (td : TE) : TI := fun σ H R => td σ H fun x H1 => ∃ d o ks, x = .ref d ∧ H1 d = some (.frz o (DtN d ks)) ∧ R (ItvN d o ks) H1
section
variable {X : Cx} {tg e : Expr} {td : TE} {apos cpos : Pos}
theorem pi_valsN (he : PE X e td) (hbase : attributeBase e "values" X.env (eval e X.env) = eval e X.env := by rfl) (hline : (apos.endLine == cpos.line) = true := by rfl) : PI X tg (.Call (.Attribute e "values" apos) [] [] cpos) (iValsN td) := by
  refine ⟨fun pins s σ H R I h => ?_⟩
  refine wpAny_Call_method (T := "dict") (id := "dict.values") hbase rfl hline F.plainAttrs_dict F.slot_dict_values F.type_dict_values (thn (he.run pins s σ H _ I h) fun u s1 ⟨x, H1, I1, rx, d, o, ks, ex, hd, q⟩ => ?_)
  subst ex
  obtain rfl : u = Value.ref d := rx
  obtain ⟨hs, hgd, hx, es, ep, hdt, hsz, ent⟩ := I1.frzN hd
  have raw : s1.heap.DictRaw d es ep := ⟨o, hgd, hx, hdt⟩
  refine ⟨raw.typeIs, fun b e => by cases e; exact ⟨o, hgd, hx.2.1⟩, ?_⟩
  have I2 : Inv X pins σ H1 { s1 with heap := s1.heap.push { cls := .type "dict_values", data := .fields #[.ref d] } } := I1.kept (t' := s1.toks) fun b ob q => Heap.get?_push_of_some _ q
  have fin : wpAny (model X.prog X.w) X.A (pyIter (.ref s1.heap.objs.size)) (PIE X pins σ tg R) X.xe { s1 with heap := s1.heap.push { cls := .type "dict_values", data := .fields #[.ref d] } } := by
    refine wpAny_pyIter_values_raw (d := d) ⟨_, Heap.get?_push_size _ rfl, rfl, rfl⟩ (raw.at fun ob q => Heap.get?_push_of_some _ q) (pi_one (tk := s1.toks) I2 _ (turn_valsN _ hdt) ⟨_, Heap.get?_push_size _ rfl, rfl, ?_⟩ q)
    rw [hsz] <;> rfl
  show wpAny _ _ (callWith cpos (.builtin "dict.values") [.ref d] [] []) _ X.xe s1
  exact method_meetsIn F.slot_dict_values F.entry_dict_values rfl (PySem.evalArgs_none ⟨rfl, raw.typeIs, F.args_dict_values_1 _, _, meets_dict_values_raw d hs, ⟨es, ep, raw⟩, fin⟩)
def rLenN (K : PySem.W.Frag) : List V → Hp → VK → Prop := fun xs H Q => ∃ d ks, xs = [V.ref d] ∧ DtAtN K H d ks ∧ Q (.int ((ks.length : Nat) : Int)) H
theorem call_len_N : CallR X (.builtin "len") (rLenN X.K) := by
  intro pins s σ H xs us Q I r h
  obtain ⟨p, kvs, rfl, hp, q⟩ := h
  obtain ⟨u, rfl, rx⟩ := r.one
  obtain rfl : u = .ref p := rx
  obtain ⟨z, hd, ys, rel, dd⟩ := I.dtHN hp
  have hl : kvs.length = ys.length := Paired.length rel
  refine call_len_dictH hd dd (by rw [← hl]; rw [sizeLine_eq] at z; omega) ?_
  rw [← hl]
  exact ⟨.int ((kvs.length : Nat) : Int), H, I.tok _, ⟨_, rfl⟩, q⟩
end
end L2
namespace Fx
open PySem PySem.Spec PyProof.Rows L2
inductive PV where
  | non | bl (b : Bool) | int (i : Int) | str (x : Str) | ty (n : String)
  | tup (xs : List PV) | lst (xs : List PV) | kl (xs : List PV) | mr (n : Nat)
inductive MO where
  | lst (xs : List PV) | dk (kvs : List (Key × PV)) | fd (o : Obj) (ws : List (Key × V)) (kvs : List (Key × PV))
  | tk (kvs : List (List Int × PV)) | ft (o : Obj) (ks : List (List Int × Addr × V)) (kvs : List (List Int × PV))
  | nk (kvs : List (KN × PV)) | fn (o : Obj) (ks : List (KN × Addr × V)) (kvs : List (KN × PV))
abbrev nkK (k : KN) : PV := .tup [.tup (k.1.map .int), .int k.2]
abbrev Store := List MO
abbrev PEnv := List (Option PV)
structure Wd where
  am : List Addr
  ban : List Addr
def hp0 : Hp := fun _ => none
section
variable (K : PySem.W.Frag) (d : Wd) (H : Hp)
def TupAt (a : Addr) (vs : List V) : Prop := (Rd H a (.tup vs) ∧ a ∉ d.am) ∨ SqT K hp0 a vs
def LstAt (a : Addr) (vs : List V) : Prop := H a = some (.lst vs) ∧ a ∉ d.am ∧ a ∉ d.ban
def KlAt (a : Addr) (vs : List V) : Prop := (Rd H a (.lst vs) ∧ a ∉ d.am ∧ a ∉ d.ban) ∨ SqL K hp0 a vs
mutual
inductive RV : PV → V → Prop
  | non : RV .non .non
  | bl (b : Bool) : RV (.bl b) (.bl b)
  | int (i : Int) : RV (.int i) (.int i)
  | str (x : Str) : RV (.str x) (.str x)
  | ty (n : String) : RV (.ty n) (.ty n)
  | tup {xs : List PV} {a : Addr} {vs : List V} : TupAt K d H a vs → RVs xs vs → RV (.tup xs) (.ref a)
  | lst {xs : List PV} {a : Addr} {vs : List V} : LstAt d H a vs → RVs xs vs → RV (.lst xs) (.ref a)
  | kl {xs : List PV} {a : Addr} {vs : List V} : KlAt K d H a vs → RVs xs vs → RV (.kl xs) (.ref a)
  | mr {n : Nat} {a : Addr} : d.am[n]? = some a → RV (.mr n) (.ref a)
inductive RVs : List PV → List V → Prop
  | nil : RVs [] []
  | cons {x : PV} {v : V} {xs : List PV} {vs : List V} : RV x v → RVs xs vs → RVs (x :: xs) (v :: vs)
end
def MOK (a : Addr) : MO → Prop
  | .lst xs => ∃ vs, H a = some (.lst vs) ∧ RVs K d H xs vs
  | .dk kvs => ∃ vs, H a = some (.dK vs) ∧ vs.map (·.1) = kvs.map (·.1) ∧ RVs K d H (kvs.map (·.2)) (vs.map (·.2))
  | .fd o vs kvs => H a = some (.frz o (.dK vs)) ∧ vs.map (·.1) = kvs.map (·.1) ∧ RVs K d H (kvs.map (·.2)) (vs.map (·.2))
  | .tk kvs => ∃ ks, H a = some (DtO a ks) ∧ ks.map (·.1) = kvs.map (·.1) ∧ RVs K d H (kvs.map fun kv => .tup (kv.1.map .int)) (ks.map fun p => .ref p.2.1) ∧ RVs K d H (kvs.map (·.2)) (ks.map (·.2.2))
  | .ft o ks kvs => H a = some (.frz o (DtO a ks)) ∧ ks.map (·.1) = kvs.map (·.1) ∧ RVs K d H (kvs.map fun kv => .tup (kv.1.map .int)) (ks.map fun p => .ref p.2.1) ∧ RVs K d H (kvs.map (·.2)) (ks.map (·.2.2))
  | .nk kvs => ∃ ks, H a = some (DtN a ks) ∧ ks.map (·.1) = kvs.map (·.1) ∧ RVs K d H (kvs.map fun kv => nkK kv.1) (ks.map fun p => .ref p.2.1) ∧ RVs K d H (kvs.map (·.2)) (ks.map (·.2.2))
  | .fn o ks kvs => H a = some (.frz o (DtN a ks)) ∧ ks.map (·.1) = kvs.map (·.1) ∧ RVs K d H (kvs.map fun kv => nkK kv.1) (ks.map fun p => .ref p.2.1) ∧ RVs K d H (kvs.map (·.2)) (ks.map (·.2.2))
structure WOk (μ : Store) : Prop where
  len : d.am.length = μ.length
  nd : d.am.Nodup
  ob : ∀ (i : Nat) (a : Addr) (m : MO), d.am[i]? = some a → μ[i]? = some m → MOK K d H a m
  ban : ∀ b ∈ d.ban, H b ≠ none ∧ b ∉ d.am
def REnv (ρ : PEnv) (σ : L2.St) : Prop := ρ.length = σ.length ∧ ∀ (i : Nat) x, ρ[i]? = some (some x) → ∃ v, σ[i]? = some (some v) ∧ RV K d H x v
end
structure Ext (d : Wd) (H : Hp) (d' : Wd) (H' : Hp) : Prop where
  am : ∃ ex, d'.am = d.am ++ ex ∧ ∀ p ∈ ex, H p = none ∧ p ∉ d.am
  ban : d'.ban = d.ban
  keep : ∀ b o, H b = some o → b ∉ d.am → H' b = some o
section
variable {K : PySem.W.Frag} {d d' d'' : Wd} {H H' H'' : Hp} {a : Addr} {vs : List V} {μ : Store}
theorem Ext.refl : Ext d H d H := ⟨⟨[], by simp, fun p hp => by simp at hp⟩, rfl, fun _ _ e _ => e⟩
theorem Ext.mem (e : Ext d H d' H') (h : a ∈ d.am) : a ∈ d'.am := by
  obtain ⟨ex, q, _⟩ := e.am
  rw [q]; exact List.mem_append_left _ h
theorem Ext.at (e : Ext d H d' H') {n : Nat} (h : d.am[n]? = some a) : d'.am[n]? = some a := by
  obtain ⟨ex, q, _⟩ := e.am
  rw [q, List.getElem?_append_left]
  · exact h
  · exact (List.getElem?_eq_some_iff.mp h).1
theorem Ext.nmem (e : Ext d H d' H') (h : a ∉ d.am) (t : H a ≠ none) : a ∉ d'.am := by
  obtain ⟨ex, q, f⟩ := e.am
  rw [q]
  intro z
  rcases List.mem_append.mp z with z | z
  · exact h z
  · exact t (f a z).1
theorem Ext.trans (e : Ext d H d' H') (f : Ext d' H' d'' H'') : Ext d H d'' H'' := by
  refine ⟨?_, f.ban.trans e.ban, fun b o h n => f.keep b o (e.keep b o h n) (e.nmem n (by rw [h]; simp))⟩
  obtain ⟨x1, q1, f1⟩ := e.am
  obtain ⟨x2, q2, f2⟩ := f.am
  refine ⟨x1 ++ x2, by rw [q2, q1, List.append_assoc], fun p hp => ?_⟩
  rcases List.mem_append.mp hp with hp | hp
  · exact f1 p hp
  · obtain ⟨n1, n2⟩ := f2 p hp
    have n3 : p ∉ d.am := fun z => n2 (e.mem z)
    refine ⟨?_, n3⟩
    cases q : H p with
    | none => rfl
    | some o => rw [e.keep p o q n3] at n1; cases n1
theorem Rd.ne {u : HO} (r : Rd H a u) : H a ≠ none := by
  rcases r with r | ⟨o, r⟩ <;> rw [r] <;> simp
theorem Ext.rd (e : Ext d H d' H') {u : HO} (r : Rd H a u) (n : a ∉ d.am) : Rd H' a u := by
  rcases r with r | ⟨o, r⟩
  · exact .inl (e.keep _ _ r n)
  · exact .inr ⟨o, e.keep _ _ r n⟩
theorem Ext.tupAt (e : Ext d H d' H') (h : TupAt K d H a vs) : TupAt K d' H' a vs := by
  rcases h with ⟨r, n⟩ | h
  · exact .inl ⟨e.rd r n, e.nmem n (Rd.ne r)⟩
  · exact .inr h
theorem Ext.lstAt (e : Ext d H d' H') (h : LstAt d H a vs) : LstAt d' H' a vs := by
  obtain ⟨r, n, b⟩ := h
  exact ⟨e.keep _ _ r n, e.nmem n (by rw [r]; simp), by rw [e.ban]; exact b⟩
theorem Ext.klAt (e : Ext d H d' H') (h : KlAt K d H a vs) : KlAt K d' H' a vs := by
  rcases h with ⟨r, n, b⟩ | h
  · exact .inl ⟨e.rd r n, e.nmem n (Rd.ne r), by rw [e.ban]; exact b⟩
  · exact .inr h
mutual
theorem RV.mono (e : Ext d H d' H') : ∀ {x : PV} {v : V}, RV K d H x v → RV K d' H' x v
  | _, _, .non => .non
  | _, _, .bl b => .bl b
  | _, _, .int i => .int i
  | _, _, .str x => .str x
  | _, _, .ty n => .ty n
  | _, _, .tup h r => .tup (e.tupAt h) (RVs.mono e r)
  | _, _, .lst h r => .lst (e.lstAt h) (RVs.mono e r)
  | _, _, .kl h r => .kl (e.klAt h) (RVs.mono e r)
  | _, _, .mr h => .mr (e.at h)
theorem RVs.mono (e : Ext d H d' H') : ∀ {xs : List PV} {vs : List V}, RVs K d H xs vs → RVs K d' H' xs vs
  | _, _, .nil => .nil
  | _, _, .cons r t => .cons (RV.mono e r) (RVs.mono e t)
end
theorem SqT.of0 (h : SqT K hp0 a vs) : SqT K H a vs := by
  rcases h with (h | ⟨o, h⟩) | h
  · cases h
  · cases h
  · exact .inr h
theorem SqL.of0 (h : SqL K hp0 a vs) : SqL K H a vs := by
  rcases h with (h | ⟨o, h⟩) | h
  · cases h
  · cases h
  · exact .inr h
theorem TupAt.sq (h : TupAt K d H a vs) : SqT K H a vs := by
  rcases h with ⟨r, n⟩ | h
  · exact .inl r
  · exact SqT.of0 h
theorem LstAt.sq (h : LstAt d H a vs) : SqL K H a vs := .of h.1
theorem KlAt.sq (h : KlAt K d H a vs) : SqL K H a vs := by
  rcases h with ⟨r, n⟩ | h
  · exact .inl r
  · exact SqL.of0 h
theorem RVs.length : ∀ {xs : List PV} {vs : List V}, RVs K d H xs vs → xs.length = vs.length
  | _, _, .nil => rfl
  | _, _, .cons _ t => by rw [List.length_cons, List.length_cons, RVs.length t]
theorem RVs.get : ∀ {xs : List PV} {vs : List V} {i : Nat} {x : PV}, RVs K d H xs vs → xs[i]? = some x → ∃ v, vs[i]? = some v ∧ RV K d H x v
  | _, _, _, _, .nil, h => by simp at h
  | _, _, 0, _, .cons r _, h => by
    simp at h; subst h; exact ⟨_, rfl, r⟩
  | _, _, i + 1, _, .cons _ t, h => by
    obtain ⟨v, e, r⟩ := RVs.get (i := i) t (by simpa using h)
    exact ⟨v, by simpa using e, r⟩
theorem RVs.append : ∀ {xs ys : List PV} {vs us : List V}, RVs K d H xs vs → RVs K d H ys us → RVs K d H (xs ++ ys) (vs ++ us)
  | _, _, _, _, .nil, h => h
  | _, _, _, _, .cons r t, h => .cons r (RVs.append t h)
theorem RVs.drop : ∀ {xs : List PV} {vs : List V} (n : Nat), RVs K d H xs vs → RVs K d H (xs.drop n) (vs.drop n)
  | _, _, 0, h => h
  | _, _, _ + 1, .nil => .nil
  | _, _, n + 1, .cons _ t => RVs.drop n t
theorem RVs.take : ∀ {xs : List PV} {vs : List V} (n : Nat), RVs K d H xs vs → RVs K d H (xs.take n) (vs.take n)
  | _, _, 0, h => .nil
  | _, _, _ + 1, .nil => .nil
  | _, _, n + 1, .cons r t => .cons r (RVs.take n t)
theorem RVs.rev : ∀ {xs : List PV} {vs : List V}, RVs K d H xs vs → RVs K d H xs.reverse vs.reverse
  | _, _, .nil => .nil
  | _, _, .cons r t => by
    rw [List.reverse_cons, List.reverse_cons]
    exact (RVs.rev t).append (.cons r .nil)
theorem RVs.set {x : PV} {v : V} (r : RV K d H x v) : ∀ {xs : List PV} {vs : List V} (i : Nat), RVs K d H xs vs → RVs K d H (xs.set i x) (vs.set i v)
  | _, _, _, .nil => .nil
  | _, _, 0, .cons _ t => .cons r t
  | _, _, i + 1, .cons q t => .cons q (RVs.set r i t)
theorem RVs.ints : ∀ {ns : List Int} {vs : List V}, RVs K d H (ns.map PV.int) vs → vs = ns.map V.int
  | [], _, .nil => rfl
  | n :: ns, _, .cons (.int _) t => by rw [RVs.ints t]; rfl
theorem RVs.bools : ∀ {bs : List Bool} {vs : List V}, RVs K d H (bs.map PV.bl) vs → vs = bs.map V.bl
  | [], _, .nil => rfl
  | n :: ns, _, .cons (.bl _) t => by rw [RVs.bools t]; rfl
theorem RVs.of_ints : ∀ (ns : List Int), RVs K d H (ns.map PV.int) (ns.map V.int)
  | [] => .nil
  | n :: ns => .cons (.int n) (RVs.of_ints ns)
theorem REnv.mono (e : Ext d H d' H') {ρ : PEnv} {σ : L2.St} (h : REnv K d H ρ σ) : REnv K d' H' ρ σ :=
  ⟨h.1, fun i x q => let ⟨v, a, b⟩ := h.2 i x q; ⟨v, a, b.mono e⟩⟩
theorem REnv.set {ρ : PEnv} {σ : L2.St} (h : REnv K d H ρ σ) {x : PV} {v : V} (r : RV K d H x v) (i : Nat) : REnv K d H (ρ.set i (some x)) (σ.set i (some v)) := by
  refine ⟨by rw [List.length_set, List.length_set]; exact h.1, fun j y q => ?_⟩
  rw [List.getElem?_set] at q ⊢
  by_cases hij : i = j
  · subst hij
    by_cases hl : i < ρ.length
    · rw [if_pos rfl, if_pos hl] at q
      simp at q; subst q
      exact ⟨v, by rw [if_pos rfl, if_pos (by rw [← h.1]; exact hl)], r⟩
    · rw [if_pos rfl, if_neg hl] at q; cases q
  · rw [if_neg hij] at q ⊢
    exact h.2 j y q
theorem REnv.unset {ρ : PEnv} {σ : L2.St} (h : REnv K d H ρ σ) (i : Nat) : REnv K d H (ρ.set i none) (σ.set i none) := by
  refine ⟨by rw [List.length_set, List.length_set]; exact h.1, fun j y q => ?_⟩
  rw [List.getElem?_set] at q ⊢
  by_cases hij : i = j
  · subst hij
    rw [if_pos rfl] at q
    split at q <;> cases q
  · rw [if_neg hij] at q ⊢
    exact h.2 j y q
theorem WOk.notin (w : WOk K d H μ) (h : H a = none) : a ∉ d.am := fun z => by
  obtain ⟨i, hi, e⟩ := List.getElem_of_mem z
  have e1 : d.am[i]? = some a := by rw [List.getElem?_eq_getElem hi, e]
  have hj : i < μ.length := by rw [← w.len]; exact hi
  have q := w.ob i a μ[i] e1 (List.getElem?_eq_getElem hj)
  cases m : μ[i] with
  | lst xs => rw [m] at q; obtain ⟨vs, q, _⟩ := q; rw [h] at q; cases q
  | dk kvs => rw [m] at q; obtain ⟨vs, q, _⟩ := q; rw [h] at q; cases q
  | fd o ws kvs => rw [m] at q; obtain ⟨q, _⟩ := q; rw [h] at q; cases q
  | tk kvs => rw [m] at q; obtain ⟨vs, q, _⟩ := q; rw [h] at q; cases q
  | nk kvs => rw [m] at q; obtain ⟨vs, q, _⟩ := q; rw [h] at q; cases q
  | ft o ws kvs => rw [m] at q; obtain ⟨q, _⟩ := q; rw [h] at q; cases q
  | fn o ws kvs => rw [m] at q; obtain ⟨q, _⟩ := q; rw [h] at q; cases q
theorem WOk.notban (w : WOk K d H μ) (h : H a = none) : a ∉ d.ban := fun z => (w.ban a z).1 h
theorem MOK.mono (e : Ext d H d' H') {m : MO} (hk : H' a = H a) (h : MOK K d H a m) : MOK K d' H' a m := by
  cases m with
  | lst xs => obtain ⟨vs, q, r⟩ := h; exact ⟨vs, by rw [hk]; exact q, r.mono e⟩
  | dk kvs => obtain ⟨vs, q, r1, r2⟩ := h; exact ⟨vs, by rw [hk]; exact q, r1, r2.mono e⟩
  | fd o ws kvs => obtain ⟨q, r1, r2⟩ := h; exact ⟨by rw [hk]; exact q, r1, r2.mono e⟩
  | tk kvs => obtain ⟨vs, q, r0, r1, r2⟩ := h; exact ⟨vs, by rw [hk]; exact q, r0, r1.mono e, r2.mono e⟩
  | nk kvs => obtain ⟨vs, q, r0, r1, r2⟩ := h; exact ⟨vs, by rw [hk]; exact q, r0, r1.mono e, r2.mono e⟩
  | ft o ws kvs => obtain ⟨q, r0, r1, r2⟩ := h; exact ⟨by rw [hk]; exact q, r0, r1.mono e, r2.mono e⟩
  | fn o ws kvs => obtain ⟨q, r0, r1, r2⟩ := h; exact ⟨by rw [hk]; exact q, r0, r1.mono e, r2.mono e⟩
theorem Ext.lay {o : HO} (w : WOk K d H μ) (h : H a = none) : Ext d H d (upd H a o) :=
  ⟨⟨[], by simp, fun p hp => by simp at hp⟩, rfl, fun b u e _ => by rw [upd_ne (ne_of_none e h)]; exact e⟩
theorem WOk.lay {o : HO} (w : WOk K d H μ) (h : H a = none) : WOk K d (upd H a o) μ := by
  have e : Ext d H d (upd H a o) := Ext.lay w h
  refine ⟨w.len, w.nd, fun i b m h1 h2 => ?_, fun b hb => ?_⟩
  · have hne : b ≠ a := by
      rintro rfl
      exact w.notin h (List.mem_of_getElem? h1)
    exact (w.ob i b m h1 h2).mono e (upd_ne hne)
  · obtain ⟨x, y⟩ := w.ban b hb
    refine ⟨?_, y⟩
    have hne : b ≠ a := by rintro rfl; exact x h
    rw [upd_ne hne]; exact x
def Wd.push (d : Wd) (a : Addr) : Wd := ⟨d.am ++ [a], d.ban⟩
theorem Ext.push {o : HO} (w : WOk K d H μ) (h : H a = none) : Ext d H (d.push a) (upd H a o) :=
  ⟨⟨[a], rfl, fun p hp => by
    have : p = a := by simpa using hp
    subst this; exact ⟨h, w.notin h⟩⟩, rfl, fun b u e _ => by rw [upd_ne (ne_of_none e h)]; exact e⟩
theorem WOk.push {o : HO} {m : MO} (w : WOk K d H μ) (h : H a = none) (hm : MOK K (d.push a) (upd H a o) a m) : WOk K (d.push a) (upd H a o) (μ ++ [m]) := by
  have e : Ext d H (d.push a) (upd H a o) := Ext.push w h
  have na := w.notin h
  refine ⟨by simp [Wd.push, w.len], ?_, fun i b m' h1 h2 => ?_, fun b hb => ?_⟩
  · show (d.am ++ [a]).Nodup
    rw [List.nodup_append]
    exact ⟨w.nd, by simp, fun x hx y hy => by
      have : y = a := by simpa using hy
      subst this; rintro rfl; exact na hx⟩
  · replace h1 : (d.am ++ [a])[i]? = some b := h1
    by_cases hi : i < d.am.length
    · rw [List.getElem?_append_left hi] at h1
      rw [List.getElem?_append_left (by rw [← w.len]; exact hi)] at h2
      have hne : b ≠ a := by rintro rfl; exact na (List.mem_of_getElem? h1)
      exact (w.ob i b m' h1 h2).mono e (upd_ne hne)
    · have hi2 : i = d.am.length := by
        have := (List.getElem?_eq_some_iff.mp h1).1
        simp at this; omega
      subst hi2
      rw [List.getElem?_append_right (Nat.le_refl _)] at h1
      rw [w.len, List.getElem?_append_right (Nat.le_refl _)] at h2
      simp at h1 h2
      subst h1; subst h2
      exact hm
  · obtain ⟨x, y⟩ := w.ban b hb
    have hne : b ≠ a := by rintro rfl; exact x h
    exact ⟨by rw [upd_ne hne]; exact x, fun z => (List.mem_append.mp z).elim y (by simpa using hne)⟩
theorem Ext.chg {o : HO} (h : a ∈ d.am) : Ext d H d (upd H a o) :=
  ⟨⟨[], by simp, fun p hp => by simp at hp⟩, rfl, fun b u e n => by
    have hne : b ≠ a := by rintro rfl; exact n h
    rw [upd_ne hne]; exact e⟩
theorem WOk.chg {o : HO} {m : MO} {n : Nat} (w : WOk K d H μ) (h : d.am[n]? = some a) (hm : MOK K d (upd H a o) a m) : WOk K d (upd H a o) (μ.set n m) := by
  have ha : a ∈ d.am := List.mem_of_getElem? h
  have e : Ext d H d (upd H a o) := Ext.chg ha
  refine ⟨by rw [List.length_set]; exact w.len, w.nd, fun i b m' h1 h2 => ?_, fun b hb => ?_⟩
  · rw [List.getElem?_set] at h2
    by_cases hin : n = i
    · subst hin
      rw [h] at h1; cases h1
      rw [if_pos rfl] at h2
      split at h2
      · cases h2; exact hm
      · cases h2
    · rw [if_neg hin] at h2
      have hne : b ≠ a := by
        rintro rfl
        have z1 := List.getElem?_eq_some_iff.mp h
        have z2 := List.getElem?_eq_some_iff.mp h1
        obtain ⟨l1, z1⟩ := z1
        obtain ⟨l2, z2⟩ := z2
        exact hin ((List.getElem_inj w.nd).mp (z1.trans z2.symm))
      exact (w.ob i b m' h1 h2).mono e (upd_ne hne)
  · obtain ⟨x, y⟩ := w.ban b hb
    have hne : b ≠ a := by rintro rfl; exact y ha
    exact ⟨by rw [upd_ne hne]; exact x, y⟩
end
end Fx
namespace Fx
open PySem PySem.Spec PyProof.Rows L2
abbrev ME := PEnv → Store → (PV → Store → Prop) → Prop
abbrev MT := PEnv → Store → (Bool → Store → Prop) → Prop
abbrev MA := PEnv → Store → (List PV → Store → Prop) → Prop
structure MEnds where
  nx : PEnv → Store → Prop
  rt : PV → Store → Prop
  bk : PEnv → Store → Prop := fun _ _ => False
  ct : PEnv → Store → Prop := fun _ _ => False
abbrev MS := MEnds → PEnv → Store → Prop
abbrev MG := PV → PEnv → Store → (PEnv → Store → Prop) → Prop
abbrev MGs := List PV → PEnv → Store → (PEnv → Store → Prop) → Prop
abbrev MI := PEnv → Store → (List PV → Store → Prop) → Prop
abbrev MO2 := PV → PV → Store → (PV → Store → Prop) → Prop
abbrev MB := List PV → Store → (PV → Store → Prop) → Prop
section
variable (K : PySem.W.Frag)
class FE (t : TE) (m : outParam ME) : Prop where
  run : ∀ (d : Wd) (σ : L2.St) (H : Hp) (ρ : PEnv) (μ : Store) (P : PV → Store → Prop) (Q : VK), WOk K d H μ → REnv K d H ρ σ → m ρ μ P →
    (∀ d' H' μ' x v, Ext d H d' H' → WOk K d' H' μ' → RV K d' H' x v → P x μ' → Q v H') → t σ H Q
class FT (t : TT) (m : outParam MT) : Prop where
  run : ∀ (d : Wd) (σ : L2.St) (H : Hp) (ρ : PEnv) (μ : Store) (P : Bool → Store → Prop) (Q : Bool → Hp → Prop), WOk K d H μ → REnv K d H ρ σ → m ρ μ P →
    (∀ d' H' μ' b, Ext d H d' H' → WOk K d' H' μ' → P b μ' → Q b H') → t σ H Q
class FA (t : TA) (m : outParam MA) : Prop where
  run : ∀ (d : Wd) (σ : L2.St) (H : Hp) (ρ : PEnv) (μ : Store) (P : List PV → Store → Prop) (Q : List V → Hp → Prop), WOk K d H μ → REnv K d H ρ σ → m ρ μ P →
    (∀ d' H' μ' xs vs, Ext d H d' H' → WOk K d' H' μ' → RVs K d' H' xs vs → P xs μ' → Q vs H') → t σ H Q
structure Lk (d : Wd) (H : Hp) (P : MEnds) (D : Ends) : Prop where
  nx : ∀ d' σ' H' ρ' μ', Ext d H d' H' → WOk K d' H' μ' → REnv K d' H' ρ' σ' → P.nx ρ' μ' → D.nx σ' H'
  rt : ∀ d' H' μ' x v, Ext d H d' H' → WOk K d' H' μ' → RV K d' H' x v → P.rt x μ' → D.rt v H'
  bk : ∀ d' σ' H' ρ' μ', Ext d H d' H' → WOk K d' H' μ' → REnv K d' H' ρ' σ' → P.bk ρ' μ' → D.bk σ' H'
  ct : ∀ d' σ' H' ρ' μ', Ext d H d' H' → WOk K d' H' μ' → REnv K d' H' ρ' σ' → P.ct ρ' μ' → D.ct σ' H'
class FS (t : TS) (m : outParam MS) : Prop where
  run : ∀ (d : Wd) (σ : L2.St) (H : Hp) (ρ : PEnv) (μ : Store) (P : MEnds) (D : Ends), WOk K d H μ → REnv K d H ρ σ → m P ρ μ → Lk K d H P D → t D σ H
class FG (t : TG) (m : outParam MG) (sl : outParam (List Nat)) : Prop where
  run : ∀ (d : Wd) (σ : L2.St) (H : Hp) (ρ : PEnv) (μ : Store) (x : PV) (v : V) (P : PEnv → Store → Prop) (Q : L2.St → Hp → Prop), WOk K d H μ → REnv K d H ρ σ → RV K d H x v → m x ρ μ P →
    (∀ d' σ' H' ρ' μ', Ext d H d' H' → WOk K d' H' μ' → REnv K d' H' ρ' σ' → σ'.length = σ.length → (∀ i, i ∉ sl → σ'[i]? = σ[i]?) → P ρ' μ' → Q σ' H') → t v σ H Q
class FGs (t : TGs) (m : outParam MGs) (sl : outParam (List Nat)) : Prop where
  run : ∀ (d : Wd) (σ : L2.St) (H : Hp) (ρ : PEnv) (μ : Store) (xs : List PV) (vs : List V) (P : PEnv → Store → Prop) (Q : L2.St → Hp → Prop), WOk K d H μ → REnv K d H ρ σ → RVs K d H xs vs → m xs ρ μ P →
    (∀ d' σ' H' ρ' μ', Ext d H d' H' → WOk K d' H' μ' → REnv K d' H' ρ' σ' → σ'.length = σ.length → (∀ i, i ∉ sl → σ'[i]? = σ[i]?) → P ρ' μ' → Q σ' H') → t vs σ H Q
def Bars (d d' : Wd) (H : Hp) : Prop := d'.am = d.am ∧ ∀ b ∈ d'.ban, b ∈ d.ban ∨ H b = none
def ItOk (d0 : Wd) (H0 : Hp) (J : It) (xs : List PV) : Prop :=
  ∀ d1 d H μ, Bars d0 d1 H0 → Ext d1 H0 d H → WOk K d H μ → (∀ (i : Nat) x, xs[i]? = some x → J.go i H ∧ ∀ v H', J.yld i H v H' → Ext d H d H' ∧ WOk K d H' μ ∧ RV K d H' x v) ∧ (∀ i, xs.length ≤ i → J.stop i H)
class FI (t : TI) (m : outParam MI) : Prop where
  run : ∀ (d : Wd) (σ : L2.St) (H : Hp) (ρ : PEnv) (μ : Store) (P : List PV → Store → Prop) (R : It → Hp → Prop), WOk K d H μ → REnv K d H ρ σ → m ρ μ P →
    (∀ d' H' μ' J xs, Ext d H d' H' → WOk K d' H' μ' → ItOk K d' H' J xs → P xs μ' → R J H') → t σ H R
class F2 (r : R2) (p : outParam MO2) : Prop where
  run : ∀ (d : Wd) (H : Hp) (μ : Store) (x y : PV) (v u : V) (P : PV → Store → Prop) (Q : VK), WOk K d H μ → RV K d H x v → RV K d H y u → p x y μ P →
    (∀ d' H' μ' z w, Ext d H d' H' → WOk K d' H' μ' → RV K d' H' z w → P z μ' → Q w H') → r v u H Q
class F1 (r : V → Hp → VK → Prop) (p : outParam (PV → Store → (PV → Store → Prop) → Prop)) : Prop where
  run : ∀ (d : Wd) (H : Hp) (μ : Store) (x : PV) (v : V) (P : PV → Store → Prop) (Q : VK), WOk K d H μ → RV K d H x v → p x μ P →
    (∀ d' H' μ' z w, Ext d H d' H' → WOk K d' H' μ' → RV K d' H' z w → P z μ' → Q w H') → r v H Q
class FB (r : List V → Hp → VK → Prop) (p : outParam MB) : Prop where
  run : ∀ (d : Wd) (H : Hp) (μ : Store) (xs : List PV) (vs : List V) (P : PV → Store → Prop) (Q : VK), WOk K d H μ → RVs K d H xs vs → p xs μ P →
    (∀ d' H' μ' z w, Ext d H d' H' → WOk K d' H' μ' → RV K d' H' z w → P z μ' → Q w H') → r vs H Q
class FM (r : V → List V → Hp → VK → Prop) (p : outParam (PV → List PV → Store → (PV → Store → Prop) → Prop)) : Prop where
  run : ∀ (d : Wd) (H : Hp) (μ : Store) (x : PV) (v : V) (xs : List PV) (vs : List V) (P : PV → Store → Prop) (Q : VK), WOk K d H μ → RV K d H x v → RVs K d H xs vs → p x xs μ P →
    (∀ d' H' μ' z w, Ext d H d' H' → WOk K d' H' μ' → RV K d' H' z w → P z μ' → Q w H') → r v vs H Q
end
section
variable {K : PySem.W.Frag}
theorem Lk.mono {d d1 : Wd} {H H1 : Hp} {P : MEnds} {D : Ends} (e : Ext d H d1 H1) (l : Lk K d H P D) : Lk K d1 H1 P D :=
  ⟨fun _ _ _ _ _ f => l.nx _ _ _ _ _ (e.trans f), fun _ _ _ _ _ f => l.rt _ _ _ _ _ (e.trans f), fun _ _ _ _ _ f => l.bk _ _ _ _ _ (e.trans f), fun _ _ _ _ _ f => l.ct _ _ _ _ _ (e.trans f)⟩
def mVar (i : Nat) : ME := fun ρ μ P => match ρ[i]? with | some (some x) => P x μ | _ => False
def mC (x : PV) : ME := fun _ μ P => P x μ
class CV (v : V) (x : outParam PV) : Prop where
  rv : ∀ K d H, RV K d H x v
instance : CV .non .non := ⟨fun _ _ _ => .non⟩
instance {b} : CV (.bl b) (.bl b) := ⟨fun _ _ _ => .bl b⟩
instance {b} : CV (.int b) (.int b) := ⟨fun _ _ _ => .int b⟩
instance {b} : CV (.str b) (.str b) := ⟨fun _ _ _ => .str b⟩
instance {b} : CV (.ty b) (.ty b) := ⟨fun _ _ _ => .ty b⟩
instance {i} : FE K (tVar i) (mVar i) := ⟨fun d σ H ρ μ P Q w e h k => by
  unfold mVar at h
  split at h
  · rename_i x hx
    obtain ⟨v, hv, r⟩ := e.2 i x hx
    exact ⟨v, hv, k d H μ x v .refl w r h⟩
  · exact h.elim⟩
instance {v x} [c : CV v x] : FE K (tC v) (mC x) := ⟨fun d σ H ρ μ P Q w e h k => k d H μ x v .refl w (c.rv _ _ _) h⟩
def mOp (p : MO2) (a b : ME) : ME := fun ρ μ P => a ρ μ fun x μ1 => b ρ μ1 fun y μ2 => p x y μ2 P
instance {r p ta tb ma mb} [h : F2 K r p] [ha : FE K ta ma] [hb : FE K tb mb] : FE K (tOp r ta tb) (mOp p ma mb) := ⟨fun d σ H ρ μ P Q w e q k => by
  refine ha.run d σ H ρ μ _ _ w e q fun d1 H1 μ1 x v e1 w1 r1 q1 => ?_
  refine hb.run d1 σ H1 ρ μ1 _ _ w1 (e.mono e1) q1 fun d2 H2 μ2 y u e2 w2 r2 q2 => ?_
  exact h.run d2 H2 μ2 x y v u P Q w2 (r1.mono e2) r2 q2 fun d3 H3 μ3 z w' e3 w3 r3 q3 => k d3 H3 μ3 z w' ((e1.trans e2).trans e3) w3 r3 q3⟩
def mUn (p : PV → Store → (PV → Store → Prop) → Prop) (a : ME) : ME := fun ρ μ P => a ρ μ fun x μ1 => p x μ1 P
instance {r p ta ma} [h : F1 K r p] [ha : FE K ta ma] : FE K (tUn r ta) (mUn p ma) := ⟨fun d σ H ρ μ P Q w e q k => by
  refine ha.run d σ H ρ μ _ _ w e q fun d1 H1 μ1 x v e1 w1 r1 q1 => ?_
  exact h.run d1 H1 μ1 x v P Q w1 r1 q1 fun d3 H3 μ3 z w' e3 w3 r3 q3 => k d3 H3 μ3 z w' (e1.trans e3) w3 r3 q3⟩
def pI (C : Int → Int → Prop) (g : Int → Int → PV) : MO2 := fun x y μ P => match x, y with | .int i, .int j => C i j ∧ P (g i j) μ | _, _ => False
def pI0 (g : Int → Int → PV) : MO2 := fun x y μ P => match x, y with | .int i, .int j => P (g i j) μ | _, _ => False
theorem pI_run {C : Int → Int → Prop} {g : Int → Int → PV} {x y : PV} {μ : Store} {P : PV → Store → Prop} (h : pI C g x y μ P) : ∃ i j, x = .int i ∧ y = .int j ∧ C i j ∧ P (g i j) μ := by
  cases x <;> cases y <;> first | exact h.elim | exact ⟨_, _, rfl, rfl, h.1, h.2⟩
theorem pI0_run {g : Int → Int → PV} {x y : PV} {μ : Store} {P : PV → Store → Prop} (h : pI0 g x y μ P) : ∃ i j, x = .int i ∧ y = .int j ∧ P (g i j) μ := by
  cases x <;> cases y <;> first | exact h.elim | exact ⟨_, _, rfl, rfl, h⟩
instance {C : Int → Int → Prop} {f : Int → Int → Int} : F2 K (rI C fun i j => .int (f i j)) (pI C fun i j => .int (f i j)) := ⟨fun d H μ x y v u P Q w r1 r2 q k => by
  obtain ⟨i, j, rfl, rfl, c, q⟩ := pI_run q
  cases r1; cases r2
  exact ⟨i, j, rfl, rfl, c, k d H μ _ _ .refl w (.int _) q⟩⟩
instance {f : Int → Int → Int} : F2 K (rI0 fun i j => .int (f i j)) (pI0 fun i j => .int (f i j)) := ⟨fun d H μ x y v u P Q w r1 r2 q k => by
  obtain ⟨i, j, rfl, rfl, q⟩ := pI0_run q
  cases r1; cases r2
  exact ⟨i, j, rfl, rfl, k d H μ _ _ .refl w (.int _) q⟩⟩
instance {C : Int → Int → Prop} {f : Int → Int → Bool} : F2 K (rI C fun i j => .bl (f i j)) (pI C fun i j => .bl (f i j)) := ⟨fun d H μ x y v u P Q w r1 r2 q k => by
  obtain ⟨i, j, rfl, rfl, c, q⟩ := pI_run q
  cases r1; cases r2
  exact ⟨i, j, rfl, rfl, c, k d H μ _ _ .refl w (.bl _) q⟩⟩
instance {f : Int → Int → Bool} : F2 K (rI0 fun i j => .bl (f i j)) (pI0 fun i j => .bl (f i j)) := ⟨fun d H μ x y v u P Q w r1 r2 q k => by
  obtain ⟨i, j, rfl, rfl, q⟩ := pI0_run q
  cases r1; cases r2
  exact ⟨i, j, rfl, rfl, k d H μ _ _ .refl w (.bl _) q⟩⟩
def pU (g : Int → PV) : PV → Store → (PV → Store → Prop) → Prop := fun x μ P => match x with | .int i => P (g i) μ | _ => False
instance {f : Int → Int} : F1 K (rU fun i => .int (f i)) (pU fun i => .int (f i)) := ⟨fun d H μ x v P Q w r1 q k => by
  cases x <;> try exact q.elim
  cases r1
  exact ⟨_, rfl, k d H μ _ _ .refl w (.int _) q⟩⟩
def mTest (m : ME) : MT := fun ρ μ P => m ρ μ fun x μ1 => match x with | .bl b => P b μ1 | _ => False
instance {t m} [h : FE K t m] : FT K (tTest t) (mTest m) := ⟨fun d σ H ρ μ P Q w e q k => by
  refine h.run d σ H ρ μ _ _ w e q fun d1 H1 μ1 x v e1 w1 r1 q1 => ?_
  cases x <;> try exact q1.elim
  cases r1
  exact ⟨_, rfl, k d1 H1 μ1 _ e1 w1 q1⟩⟩
instance {t m} [h : FE K t m] : FT K (tB t) (mTest m) := ⟨fun d σ H ρ μ P Q w e q k => by
  refine h.run d σ H ρ μ _ _ w e q fun d1 H1 μ1 x v e1 w1 r1 q1 => ?_
  cases x <;> try exact q1.elim
  cases r1
  exact ⟨_, rfl, k d1 H1 μ1 _ e1 w1 q1⟩⟩
def mAnd (a b : MT) : MT := fun ρ μ P => a ρ μ fun c μ1 => if c = true then b ρ μ1 P else P false μ1
def mOr (a b : MT) : MT := fun ρ μ P => a ρ μ fun c μ1 => if c = true then P true μ1 else b ρ μ1 P
def mNot (a : MT) : MT := fun ρ μ P => a ρ μ fun c μ1 => P (!c) μ1
def mYes : MT := fun _ μ P => P true μ
instance {a b ma mb} [ha : FT K a ma] [hb : FT K b mb] : FT K (tAnd a b) (mAnd ma mb) := ⟨fun d σ H ρ μ P Q w e q k => by
  refine ha.run d σ H ρ μ _ _ w e q fun d1 H1 μ1 c e1 w1 q1 => ?_
  cases c
  · rw [if_neg (by simp)] at q1 ⊢
    exact k d1 H1 μ1 _ e1 w1 q1
  · rw [if_pos rfl] at q1 ⊢
    exact hb.run d1 σ H1 ρ μ1 _ _ w1 (e.mono e1) q1 fun d2 H2 μ2 b e2 w2 q2 => k d2 H2 μ2 b (e1.trans e2) w2 q2⟩
instance {a b ma mb} [ha : FT K a ma] [hb : FT K b mb] : FT K (tOr a b) (mOr ma mb) := ⟨fun d σ H ρ μ P Q w e q k => by
  refine ha.run d σ H ρ μ _ _ w e q fun d1 H1 μ1 c e1 w1 q1 => ?_
  cases c
  · rw [if_neg (by simp)] at q1 ⊢
    exact hb.run d1 σ H1 ρ μ1 _ _ w1 (e.mono e1) q1 fun d2 H2 μ2 b e2 w2 q2 => k d2 H2 μ2 b (e1.trans e2) w2 q2
  · rw [if_pos rfl] at q1 ⊢
    exact k d1 H1 μ1 _ e1 w1 q1⟩
instance {a ma} [ha : FT K a ma] : FT K (tNot a) (mNot ma) := ⟨fun d σ H ρ μ P Q w e q k =>
  ha.run d σ H ρ μ _ _ w e q fun d1 H1 μ1 c e1 w1 q1 => k d1 H1 μ1 _ e1 w1 q1⟩
instance : FT K tYes mYes := ⟨fun d σ H ρ μ P Q w e q k => k d H μ _ .refl w q⟩
def mAndV (a b : ME) : ME := fun ρ μ P => a ρ μ fun x μ1 => match x with | .bl c => if c = true then b ρ μ1 P else P (.bl false) μ1 | _ => False
def mOrV (a b : ME) : ME := fun ρ μ P => a ρ μ fun x μ1 => match x with | .bl c => if c = true then P (.bl true) μ1 else b ρ μ1 P | _ => False
def mNotV (a : ME) : ME := fun ρ μ P => a ρ μ fun x μ1 => match x with | .bl c => P (.bl (!c)) μ1 | _ => False
instance {a b ma mb} [ha : FE K a ma] [hb : FE K b mb] : FE K (tAndV a b) (mAndV ma mb) := ⟨fun d σ H ρ μ P Q w e q k => by
  refine ha.run d σ H ρ μ _ _ w e q fun d1 H1 μ1 x v e1 w1 r1 q1 => ?_
  cases x <;> try exact q1.elim
  rename_i c
  cases r1
  refine ⟨c, rfl, ?_⟩
  cases c
  · exact k d1 H1 μ1 _ _ e1 w1 (.bl _) q1
  · exact hb.run d1 σ H1 ρ μ1 _ _ w1 (e.mono e1) q1 fun d2 H2 μ2 y u e2 w2 r2 q2 => k d2 H2 μ2 y u (e1.trans e2) w2 r2 q2⟩
instance {a b ma mb} [ha : FE K a ma] [hb : FE K b mb] : FE K (tOrV a b) (mOrV ma mb) := ⟨fun d σ H ρ μ P Q w e q k => by
  refine ha.run d σ H ρ μ _ _ w e q fun d1 H1 μ1 x v e1 w1 r1 q1 => ?_
  cases x <;> try exact q1.elim
  rename_i c
  cases r1
  refine ⟨c, rfl, ?_⟩
  cases c
  · exact hb.run d1 σ H1 ρ μ1 _ _ w1 (e.mono e1) q1 fun d2 H2 μ2 y u e2 w2 r2 q2 => k d2 H2 μ2 y u (e1.trans e2) w2 r2 q2
  · exact k d1 H1 μ1 _ _ e1 w1 (.bl _) q1⟩
instance {a ma} [ha : FE K a ma] : FE K (tNotV a) (mNotV ma) := ⟨fun d σ H ρ μ P Q w e q k => by
  refine ha.run d σ H ρ μ _ _ w e q fun d1 H1 μ1 x v e1 w1 r1 q1 => ?_
  cases x <;> try exact q1.elim
  cases r1
  exact ⟨_, rfl, k d1 H1 μ1 _ _ e1 w1 (.bl _) q1⟩⟩
def mIf (c : MT) (a b : ME) : ME := fun ρ μ P => c ρ μ fun x μ1 => if x = true then a ρ μ1 P else b ρ μ1 P
instance {t a b mt ma mb} [ht : FT K t mt] [ha : FE K a ma] [hb : FE K b mb] : FE K (tIf t a b) (mIf mt ma mb) := ⟨fun d σ H ρ μ P Q w e q k => by
  refine ht.run d σ H ρ μ _ _ w e q fun d1 H1 μ1 c e1 w1 q1 => ?_
  cases c
  · exact hb.run d1 σ H1 ρ μ1 _ _ w1 (e.mono e1) q1 fun d2 H2 μ2 y u e2 w2 r2 q2 => k d2 H2 μ2 y u (e1.trans e2) w2 r2 q2
  · exact ha.run d1 σ H1 ρ μ1 _ _ w1 (e.mono e1) q1 fun d2 H2 μ2 y u e2 w2 r2 q2 => k d2 H2 μ2 y u (e1.trans e2) w2 r2 q2⟩
def mChain (p q : MO2) (a b c : ME) : ME := fun ρ μ P => a ρ μ fun x μ1 => b ρ μ1 fun y μ2 => p x y μ2 fun z μ3 => match z with | .bl k => if k = true then c ρ μ3 fun w μ4 => q y w μ4 P else P (.bl false) μ3 | _ => False
instance {r r' p q ta tb tc ma mb mc} [h : F2 K r p] [h' : F2 K r' q] [ha : FE K ta ma] [hb : FE K tb mb] [hc : FE K tc mc] : FE K (tChain r r' ta tb tc) (mChain p q ma mb mc) := ⟨fun d σ H ρ μ P Q w e q k => by
  refine ha.run d σ H ρ μ _ _ w e q fun d1 H1 μ1 x v e1 w1 r1 q1 => ?_
  refine hb.run d1 σ H1 ρ μ1 _ _ w1 (e.mono e1) q1 fun d2 H2 μ2 y u e2 w2 r2 q2 => ?_
  refine h.run d2 H2 μ2 x y v u _ _ w2 (r1.mono e2) r2 q2 fun d3 H3 μ3 z w' e3 w3 r3 q3 => ?_
  cases z <;> try exact q3.elim
  rename_i c
  cases r3
  refine ⟨c, rfl, ?_⟩
  cases c
  · exact k d3 H3 μ3 _ _ ((e1.trans e2).trans e3) w3 (.bl _) q3
  · refine hc.run d3 σ H3 ρ μ3 _ _ w3 (e.mono ((e1.trans e2).trans e3)) q3 fun d4 H4 μ4 y' u' e4 w4 r4 q4 => ?_
    exact h'.run d4 H4 μ4 y y' u u' P Q w4 (r2.mono (e3.trans e4)) r4 q4 fun d5 H5 μ5 z w' e5 w5 r5 q5 => k d5 H5 μ5 z w' ((((e1.trans e2).trans e3).trans e4).trans e5) w5 r5 q5⟩
def mNil : MA := fun _ μ P => P [] μ
def mCons (a : ME) (r : MA) : MA := fun ρ μ P => a ρ μ fun x μ1 => r ρ μ1 fun xs μ2 => P (x :: xs) μ2
instance : FA K tNil mNil := ⟨fun d σ H ρ μ P Q w e q k => k d H μ [] [] .refl w .nil q⟩
instance {a ma t m} [ha : FE K a ma] [ht : FA K t m] : FA K (tCons a t) (mCons ma m) := ⟨fun d σ H ρ μ P Q w e q k => by
  refine ha.run d σ H ρ μ _ _ w e q fun d1 H1 μ1 x v e1 w1 r1 q1 => ?_
  exact ht.run d1 σ H1 ρ μ1 _ _ w1 (e.mono e1) q1 fun d2 H2 μ2 xs vs e2 w2 r2 q2 => k d2 H2 μ2 _ _ (e1.trans e2) w2 (.cons (r1.mono e2) r2) q2⟩
def lim : Nat := 1000000
theorem lim_le : lim ≤ sizeLine := by rw [sizeLine_eq]; decide
theorem lim_lt {n : Nat} (h : n ≤ lim) : n ≤ sizeLine := Nat.le_trans h lim_le
theorem lim_lt' {n : Nat} (h : n ≤ lim) : n < sizeLine := Nat.lt_of_le_of_lt h (by rw [sizeLine_eq]; decide)
def mTup (t : MA) : ME := fun ρ μ P => t ρ μ fun xs μ1 => xs.length ≤ lim ∧ P (.tup xs) μ1
def mLst (t : MA) : ME := fun ρ μ P => t ρ μ fun xs μ1 => xs.length ≤ lim ∧ P (.lst xs) μ1
def mLstM (t : MA) : ME := fun ρ μ P => t ρ μ fun xs μ1 => xs.length ≤ lim ∧ P (.mr μ1.length) (μ1 ++ [.lst xs])
theorem lay_tup {d : Wd} {H : Hp} {μ : Store} {xs : List PV} {vs : List V} {p : Addr} (w : WOk K d H μ) (r : RVs K d H xs vs) (h : H p = none) : RV K d (upd H p (.tup vs)) (.tup xs) (.ref p) :=
  .tup (.inl ⟨.inl upd_same, w.notin h⟩) (r.mono (Ext.lay w h))
theorem lay_lst {d : Wd} {H : Hp} {μ : Store} {xs : List PV} {vs : List V} {p : Addr} (w : WOk K d H μ) (r : RVs K d H xs vs) (h : H p = none) : RV K d (upd H p (.lst vs)) (.lst xs) (.ref p) :=
  .lst ⟨upd_same, w.notin h, w.notban h⟩ (r.mono (Ext.lay w h))
theorem lay_mr {d : Wd} {H : Hp} {μ : Store} {p : Addr} {o : HO} (w : WOk K d H μ) : RV K (d.push p) (upd H p o) (.mr μ.length) (.ref p) := by
  refine .mr ?_
  show (d.am ++ [p])[μ.length]? = some p
  rw [← w.len, List.getElem?_append_right (Nat.le_refl _)]
  simp
def tLstM (t : TA) : TE := tLst t
instance {t m} [h : FA K t m] : FE K (tTup t) (mTup m) := ⟨fun d σ H ρ μ P Q w e q k => by
  refine h.run d σ H ρ μ _ _ w e q fun d1 H1 μ1 xs vs e1 w1 r1 ⟨z, q1⟩ => ⟨by rw [← r1.length]; exact lim_lt z, fun p hp => ?_⟩
  exact k d1 _ μ1 _ _ (e1.trans (Ext.lay w1 hp)) (w1.lay hp) (lay_tup w1 r1 hp) q1⟩
instance {t m} [h : FA K t m] : FE K (tLst t) (mLst m) := ⟨fun d σ H ρ μ P Q w e q k => by
  refine h.run d σ H ρ μ _ _ w e q fun d1 H1 μ1 xs vs e1 w1 r1 ⟨z, q1⟩ => ⟨by rw [← r1.length]; exact lim_lt z, fun p hp => ?_⟩
  exact k d1 _ μ1 _ _ (e1.trans (Ext.lay w1 hp)) (w1.lay hp) (lay_lst w1 r1 hp) q1⟩
instance {t m} [h : FA K t m] : FE K (tLstM t) (mLstM m) := ⟨fun d σ H ρ μ P Q w e q k => by
  refine h.run d σ H ρ μ _ _ w e q fun d1 H1 μ1 xs vs e1 w1 r1 ⟨z, q1⟩ => ⟨by rw [← r1.length]; exact lim_lt z, fun p hp => ?_⟩
  have ee := Ext.push (o := .lst vs) w1 hp
  exact k (d1.push p) _ _ _ _ (e1.trans ee) (w1.push (m := .lst xs) hp ⟨vs, upd_same, r1.mono ee⟩) (lay_mr w1) q1⟩
def mNext : MS := fun P ρ μ => P.nx ρ μ
def mSeq (a b : MS) : MS := fun P ρ μ => a { P with nx := b P } ρ μ
instance : FS K tNext mNext := ⟨fun d σ H ρ μ P D w e q l => l.nx d σ H ρ μ .refl w e q⟩
instance {a b ma mb} [ha : FS K a ma] [hb : FS K b mb] : FS K (tSeq a b) (mSeq ma mb) := ⟨fun d σ H ρ μ P D w e q l =>
  ha.run d σ H ρ μ _ _ w e q ⟨fun d1 σ1 H1 ρ1 μ1 e1 w1 r1 q1 => hb.run d1 σ1 H1 ρ1 μ1 P D w1 r1 q1 (l.mono e1), l.rt, l.bk, l.ct⟩⟩
def mBreak : MS := fun P ρ μ => P.bk ρ μ
def mCont : MS := fun P ρ μ => P.ct ρ μ
instance : FS K tBreak mBreak := ⟨fun d σ H ρ μ P D w e q l => l.bk d σ H ρ μ .refl w e q⟩
instance : FS K tCont mCont := ⟨fun d σ H ρ μ P D w e q l => l.ct d σ H ρ μ .refl w e q⟩
def mDrop (m : ME) : MS := fun P ρ μ => m ρ μ fun _ μ1 => P.nx ρ μ1
instance {t m} [h : FE K t m] : FS K (tDrop t) (mDrop m) := ⟨fun d σ H ρ μ P D w e q l =>
  h.run d σ H ρ μ _ _ w e q fun d1 H1 μ1 x v e1 w1 r1 q1 => l.nx d1 σ H1 ρ μ1 e1 w1 (e.mono e1) q1⟩
def mRet (m : ME) : MS := fun P ρ μ => m ρ μ P.rt
instance {t m} [h : FE K t m] : FS K (tRet t) (mRet m) := ⟨fun d σ H ρ μ P D w e q l =>
  h.run d σ H ρ μ _ _ w e q fun d1 H1 μ1 x v e1 w1 r1 q1 => l.rt d1 H1 μ1 x v e1 w1 r1 q1⟩
def mRetN : MS := fun P ρ μ => P.rt .non μ
instance : FS K tRetN mRetN := ⟨fun d σ H ρ μ P D w e q l => l.rt d H μ .non .non .refl w .non q⟩
def mIfS (c : MT) (a b : MS) : MS := fun P ρ μ => c ρ μ fun x μ1 => if x = true then a P ρ μ1 else b P ρ μ1
instance {c a b mc ma mb} [hc : FT K c mc] [ha : FS K a ma] [hb : FS K b mb] : FS K (tIfS c a b) (mIfS mc ma mb) := ⟨fun d σ H ρ μ P D w e q l => by
  refine hc.run d σ H ρ μ _ _ w e q fun d1 H1 μ1 x e1 w1 q1 => ?_
  cases x
  · exact hb.run d1 σ H1 ρ μ1 P D w1 (e.mono e1) q1 (l.mono e1)
  · exact ha.run d1 σ H1 ρ μ1 P D w1 (e.mono e1) q1 (l.mono e1)⟩
def mNever : MS := fun _ _ _ => False
instance : FS K tNever mNever := ⟨fun d σ H ρ μ P D w e q l => q⟩
def mName (i : Nat) : MG := fun x ρ μ P => P (ρ.set i (some x)) μ
instance {i} : FG K (gName i) (mName i) [i] := ⟨fun d σ H ρ μ x v P Q w e r q k =>
  k d _ H _ μ .refl w (e.set r i) (by rw [List.length_set]) (fun j hj => by rw [List.getElem?_set_ne (by intro z; subst z; simp at hj)]) q⟩
def mGNil : MGs := fun xs ρ μ P => match xs with | [] => P ρ μ | _ => False
def mGCons (a : MG) (b : MGs) : MGs := fun xs ρ μ P => match xs with | x :: r => a x ρ μ fun ρ1 μ1 => b r ρ1 μ1 P | _ => False
instance : FGs K gNil mGNil [] := ⟨fun d σ H ρ μ xs vs P Q w e r q k => by
  cases xs
  · cases r; exact ⟨rfl, k d σ H ρ μ .refl w e rfl (fun _ _ => rfl) q⟩
  · exact q.elim⟩
instance {t m s u n s'} [h : FG K t m s] [h' : FGs K u n s'] : FGs K (gCons t u) (mGCons m n) (s ++ s') := ⟨fun d σ H ρ μ xs vs P Q w e r q k => by
  cases xs
  · exact q.elim
  · cases r with
    | cons r1 r2 =>
      refine ⟨_, _, rfl, h.run d σ H ρ μ _ _ _ _ w e r1 q fun d1 σ1 H1 ρ1 μ1 e1 w1 ee1 l1 u1 q1 => ?_⟩
      refine h'.run d1 σ1 H1 ρ1 μ1 _ _ _ _ w1 ee1 (r2.mono e1) q1 fun d2 σ2 H2 ρ2 μ2 e2 w2 ee2 l2 u2 q2 => ?_
      exact k d2 σ2 H2 ρ2 μ2 (e1.trans e2) w2 ee2 (l2.trans l1) (fun i hi => (u2 i fun z => hi (List.mem_append_right _ z)).trans (u1 i fun z => hi (List.mem_append_left _ z))) q2⟩
def mGTup (n : Nat) (t : MGs) : MG := fun x ρ μ P => match x with | .tup xs => xs.length = n ∧ t xs ρ μ P | _ => False
instance {n t m s} [h : FGs K t m s] : FG K (gTup K n t) (mGTup n m) s := ⟨fun d σ H ρ μ x v P Q w e r q k => by
  cases x <;> try exact q.elim
  cases r with
  | tup ha hr => exact ⟨_, _, rfl, ha.sq, by rw [← hr.length]; exact q.1, h.run d σ H ρ μ _ _ _ _ w e hr q.2 k⟩⟩
def mAsg (m : ME) (g : MG) : MS := fun P ρ μ => m ρ μ fun x μ1 => g x ρ μ1 P.nx
instance {t m g n s} [h : FE K t m] [h' : FG K g n s] : FS K (tAsg t g) (mAsg m n) := ⟨fun d σ H ρ μ P D w e q l => by
  refine h.run d σ H ρ μ _ _ w e q fun d1 H1 μ1 x v e1 w1 r1 q1 => ?_
  exact h'.run d1 σ H1 ρ μ1 x v _ _ w1 (e.mono e1) r1 q1 fun d2 σ2 H2 ρ2 μ2 e2 w2 ee2 _ _ q2 => l.nx d2 σ2 H2 ρ2 μ2 (e1.trans e2) w2 ee2 q2⟩
def mPar (i j : Nat) (t : MA) : MS := fun P ρ μ => t ρ μ fun xs μ1 => match xs with | [x, y] => P.nx ((ρ.set i (some x)).set j (some y)) μ1 | _ => False
instance {i j t m} [h : FA K t m] : FS K (tPar i j t) (mPar i j m) := ⟨fun d σ H ρ μ P D w e q l => by
  refine h.run d σ H ρ μ _ _ w e q fun d1 H1 μ1 xs vs e1 w1 r1 q1 => ?_
  match xs, r1, q1 with
  | [x, y], .cons (v := v) a (.cons (v := u) b .nil), q1 => exact ⟨v, u, rfl, l.nx d1 _ H1 _ μ1 e1 w1 (((e.mono e1).set a i).set b j) q1⟩⟩
def mPar3 (i j k : Nat) (t : MA) : MS := fun P ρ μ => t ρ μ fun xs μ1 => match xs with | [x, y, z] => P.nx (((ρ.set i (some x)).set j (some y)).set k (some z)) μ1 | _ => False
instance {i j k t m} [h : FA K t m] : FS K (tPar3 i j k t) (mPar3 i j k m) := ⟨fun d σ H ρ μ P D w e q l => by
  refine h.run d σ H ρ μ _ _ w e q fun d1 H1 μ1 xs vs e1 w1 r1 q1 => ?_
  match xs, r1, q1 with
  | [x, y, z], .cons (v := v) a (.cons (v := u) b (.cons (v := t) c .nil)), q1 => exact ⟨v, u, t, rfl, l.nx d1 _ H1 _ μ1 e1 w1 ((((e.mono e1).set a i).set b j).set c k) q1⟩⟩
def mAsg2 (m : ME) (g h : MG) : MS := fun P ρ μ => m ρ μ fun x μ1 => g x ρ μ1 fun ρ1 μ2 => h x ρ1 μ2 P.nx
instance {t m g n s g' n' s'} [h : FE K t m] [h1 : FG K g n s] [h2 : FG K g' n' s'] : FS K (tAsg2 t g g') (mAsg2 m n n') := ⟨fun d σ H ρ μ P D w e q l => by
  refine h.run d σ H ρ μ _ _ w e q fun d1 H1 μ1 x v e1 w1 r1 q1 => ?_
  refine h1.run d1 σ H1 ρ μ1 x v _ _ w1 (e.mono e1) r1 q1 fun d2 σ2 H2 ρ2 μ2 e2 w2 ee2 _ _ q2 => ?_
  exact h2.run d2 σ2 H2 ρ2 μ2 x v _ _ w2 ee2 (r1.mono e2) q2 fun d3 σ3 H3 ρ3 μ3 e3 w3 ee3 _ _ q3 => l.nx d3 σ3 H3 ρ3 μ3 ((e1.trans e2).trans e3) w3 ee3 q3⟩
end
end Fx
namespace Fx
open PySem PySem.Spec PyProof.Rows L2
section
variable {K : PySem.W.Frag} {d d' : Wd} {H H' : Hp} {a : Addr} {vs : List V} {μ : Store}
theorem Bars.refl : Bars d d H := ⟨rfl, fun _ h => .inl h⟩
mutual
theorem RV.bars (b : Bars d d' H) : ∀ {x : PV} {v : V}, RV K d H x v → RV K d' H x v
  | _, _, .non => .non
  | _, _, .bl b => .bl b
  | _, _, .int i => .int i
  | _, _, .str x => .str x
  | _, _, .ty n => .ty n
  | _, _, .tup h r => .tup (h.imp (fun z => ⟨z.1, by rw [b.1]; exact z.2⟩) id) (RVs.bars b r)
  | _, _, .lst h r => .lst ⟨h.1, by rw [b.1]; exact h.2.1, fun q => (b.2 _ q).elim h.2.2 (by rw [h.1]; simp)⟩ (RVs.bars b r)
  | _, _, .kl h r => .kl (h.imp (fun z => ⟨z.1, by rw [b.1]; exact z.2.1, fun q => (b.2 _ q).elim z.2.2 (Rd.ne z.1)⟩) id) (RVs.bars b r)
  | _, _, .mr h => .mr (by rw [b.1]; exact h)
theorem RVs.bars (b : Bars d d' H) : ∀ {xs : List PV} {vs : List V}, RVs K d H xs vs → RVs K d' H xs vs
  | _, _, .nil => .nil
  | _, _, .cons r t => .cons (RV.bars b r) (RVs.bars b t)
end
theorem no_tup {D : Addr} {as : List V} (h : H D = some (.lst as)) : ∀ ts, ¬ Rd H D (.tup ts) := fun ts z => by
  rcases z with q | ⟨o, q⟩ <;> rw [h] at q <;> cases q
theorem no_tupK {D : Addr} {as : List (Key × V)} (h : H D = some (.dK as)) : ∀ ts, ¬ Rd H D (.tup ts) := fun ts z => by
  rcases z with q | ⟨o, q⟩ <;> rw [h] at q <;> cases q
theorem Rd_upd {u o : HO} {D : Addr} (r : Rd H a u) (h : a ≠ D) : Rd (upd H D o) a u := by
  rcases r with r | ⟨o', r⟩
  · exact .inl (by rw [upd_ne h]; exact r)
  · exact .inr ⟨o', by rw [upd_ne h]; exact r⟩
mutual
theorem RV.made {D : Addr} {o : HO} (hb : D ∈ d.ban) (hD : ∀ ts, ¬ Rd H D (.tup ts)) : ∀ {x : PV} {v : V}, RV K d H x v → RV K d (upd H D o) x v
  | _, _, .non => .non
  | _, _, .bl b => .bl b
  | _, _, .int i => .int i
  | _, _, .str x => .str x
  | _, _, .ty n => .ty n
  | _, _, .tup h r => .tup (h.imp (fun z => ⟨Rd_upd z.1 (by rintro rfl; exact hD _ z.1), z.2⟩) id) (RVs.made hb hD r)
  | _, _, .lst h r => .lst ⟨by rw [upd_ne (by rintro rfl; exact h.2.2 hb)]; exact h.1, h.2⟩ (RVs.made hb hD r)
  | _, _, .kl h r => .kl (h.imp (fun z => ⟨Rd_upd z.1 (by rintro rfl; exact z.2.2 hb), z.2⟩) id) (RVs.made hb hD r)
  | _, _, .mr h => .mr h
theorem RVs.made {D : Addr} {o : HO} (hb : D ∈ d.ban) (hD : ∀ ts, ¬ Rd H D (.tup ts)) : ∀ {xs : List PV} {vs : List V}, RVs K d H xs vs → RVs K d (upd H D o) xs vs
  | _, _, .nil => .nil
  | _, _, .cons r t => .cons (RV.made hb hD r) (RVs.made hb hD t)
end
theorem MOK.made {D : Addr} {o : HO} (hb : D ∈ d.ban) (hD : ∀ ts, ¬ Rd H D (.tup ts)) (hne : a ≠ D) {m : MO} (h : MOK K d H a m) : MOK K d (upd H D o) a m := by
  cases m with
  | lst xs => obtain ⟨vs, q, r⟩ := h; exact ⟨vs, by rw [upd_ne hne]; exact q, r.made hb hD⟩
  | dk kvs => obtain ⟨vs, q, r1, r2⟩ := h; exact ⟨vs, by rw [upd_ne hne]; exact q, r1, r2.made hb hD⟩
  | fd o ws kvs => obtain ⟨q, r1, r2⟩ := h; exact ⟨by rw [upd_ne hne]; exact q, r1, r2.made hb hD⟩
  | tk kvs => obtain ⟨vs, q, r0, r1, r2⟩ := h; exact ⟨vs, by rw [upd_ne hne]; exact q, r0, r1.made hb hD, r2.made hb hD⟩
  | nk kvs => obtain ⟨vs, q, r0, r1, r2⟩ := h; exact ⟨vs, by rw [upd_ne hne]; exact q, r0, r1.made hb hD, r2.made hb hD⟩
  | ft o ws kvs => obtain ⟨q, r0, r1, r2⟩ := h; exact ⟨by rw [upd_ne hne]; exact q, r0, r1.made hb hD, r2.made hb hD⟩
  | fn o ws kvs => obtain ⟨q, r0, r1, r2⟩ := h; exact ⟨by rw [upd_ne hne]; exact q, r0, r1.made hb hD, r2.made hb hD⟩
theorem WOk.made {D : Addr} {o : HO} (w : WOk K d H μ) (hb : D ∈ d.ban) (hD : ∀ ts, ¬ Rd H D (.tup ts)) : WOk K d (upd H D o) μ := by
  refine ⟨w.len, w.nd, fun i b m h1 h2 => ?_, fun b hb' => ?_⟩
  · have hne : b ≠ D := by
      rintro rfl
      exact (w.ban _ hb).2 (List.mem_of_getElem? h1)
    exact (w.ob i b m h1 h2).made hb hD hne
  · obtain ⟨x, y⟩ := w.ban b hb'
    refine ⟨?_, y⟩
    by_cases hne : b = D
    · subst hne; rw [upd_same]; simp
    · rw [upd_ne hne]; exact x
mutual
theorem RV.pushed {D : Addr} (hb : D ∈ d.ban) (hD : ∀ ts, ¬ Rd H D (.tup ts)) {bn : List Addr} (hs : ∀ b ∈ bn, b ∈ d.ban) : ∀ {x : PV} {v : V}, RV K d H x v → RV K ⟨d.am ++ [D], bn⟩ H x v
  | _, _, .non => .non
  | _, _, .bl b => .bl b
  | _, _, .int i => .int i
  | _, _, .str x => .str x
  | _, _, .ty n => .ty n
  | _, _, .tup h r => .tup (h.imp (fun z => ⟨z.1, fun q => (List.mem_append.mp q).elim z.2 (fun q => by
      have e := List.mem_singleton.mp q
      subst e
      exact hD _ z.1)⟩) id) (RVs.pushed hb hD hs r)
  | _, _, .lst h r => .lst ⟨h.1, fun q => (List.mem_append.mp q).elim h.2.1 (fun q => by
      have e := List.mem_singleton.mp q
      subst e
      exact h.2.2 hb), fun q => h.2.2 (hs _ q)⟩ (RVs.pushed hb hD hs r)
  | _, _, .kl h r => .kl (h.imp (fun z => ⟨z.1, fun q => (List.mem_append.mp q).elim z.2.1 (fun q => by
      have e := List.mem_singleton.mp q
      subst e
      exact z.2.2 hb), fun q => z.2.2 (hs _ q)⟩) id) (RVs.pushed hb hD hs r)
  | _, _, .mr h => .mr (by
      show (d.am ++ [D])[_]? = _
      rw [List.getElem?_append_left (List.getElem?_eq_some_iff.mp h).1]; exact h)
theorem RVs.pushed {D : Addr} (hb : D ∈ d.ban) (hD : ∀ ts, ¬ Rd H D (.tup ts)) {bn : List Addr} (hs : ∀ b ∈ bn, b ∈ d.ban) : ∀ {xs : List PV} {vs : List V}, RVs K d H xs vs → RVs K ⟨d.am ++ [D], bn⟩ H xs vs
  | _, _, .nil => .nil
  | _, _, .cons r t => .cons (RV.pushed hb hD hs r) (RVs.pushed hb hD hs t)
end
mutual
theorem RV.less {bn : List Addr} (hs : ∀ b ∈ bn, b ∈ d.ban) : ∀ {x : PV} {v : V}, RV K d H x v → RV K ⟨d.am, bn⟩ H x v
  | _, _, .non => .non
  | _, _, .bl b => .bl b
  | _, _, .int i => .int i
  | _, _, .str x => .str x
  | _, _, .ty n => .ty n
  | _, _, .tup h r => .tup h (RVs.less hs r)
  | _, _, .lst h r => .lst ⟨h.1, h.2.1, fun q => h.2.2 (hs _ q)⟩ (RVs.less hs r)
  | _, _, .kl h r => .kl (h.imp (fun z => ⟨z.1, z.2.1, fun q => z.2.2 (hs _ q)⟩) id) (RVs.less hs r)
  | _, _, .mr h => .mr h
theorem RVs.less {bn : List Addr} (hs : ∀ b ∈ bn, b ∈ d.ban) : ∀ {xs : List PV} {vs : List V}, RVs K d H xs vs → RVs K ⟨d.am, bn⟩ H xs vs
  | _, _, .nil => .nil
  | _, _, .cons r t => .cons (RV.less hs r) (RVs.less hs t)
end
theorem MOK.less {bn : List Addr} (hs : ∀ b ∈ bn, b ∈ d.ban) {m : MO} (h : MOK K d H a m) : MOK K ⟨d.am, bn⟩ H a m := by
  cases m with
  | lst xs => obtain ⟨vs, q, r⟩ := h; exact ⟨vs, q, r.less hs⟩
  | dk kvs => obtain ⟨vs, q, r1, r2⟩ := h; exact ⟨vs, q, r1, r2.less hs⟩
  | fd o ws kvs => obtain ⟨q, r1, r2⟩ := h; exact ⟨q, r1, r2.less hs⟩
  | tk kvs => obtain ⟨vs, q, r0, r1, r2⟩ := h; exact ⟨vs, q, r0, r1.less hs, r2.less hs⟩
  | nk kvs => obtain ⟨vs, q, r0, r1, r2⟩ := h; exact ⟨vs, q, r0, r1.less hs, r2.less hs⟩
  | ft o ws kvs => obtain ⟨q, r0, r1, r2⟩ := h; exact ⟨q, r0, r1.less hs, r2.less hs⟩
  | fn o ws kvs => obtain ⟨q, r0, r1, r2⟩ := h; exact ⟨q, r0, r1.less hs, r2.less hs⟩
theorem WOk.less {bn : List Addr} (w : WOk K d H μ) (hs : ∀ b ∈ bn, b ∈ d.ban) : WOk K ⟨d.am, bn⟩ H μ :=
  ⟨w.len, w.nd, fun i b m h1 h2 => (w.ob i b m h1 h2).less hs, fun b hb => w.ban b (hs b hb)⟩
theorem MOK.pushed {D : Addr} (hb : D ∈ d.ban) (hD : ∀ ts, ¬ Rd H D (.tup ts)) {bn : List Addr} (hs : ∀ b ∈ bn, b ∈ d.ban) {m : MO} (h : MOK K d H a m) : MOK K ⟨d.am ++ [D], bn⟩ H a m := by
  cases m with
  | lst xs => obtain ⟨vs, q, r⟩ := h; exact ⟨vs, q, r.pushed hb hD hs⟩
  | dk kvs => obtain ⟨vs, q, r1, r2⟩ := h; exact ⟨vs, q, r1, r2.pushed hb hD hs⟩
  | fd o ws kvs => obtain ⟨q, r1, r2⟩ := h; exact ⟨q, r1, r2.pushed hb hD hs⟩
  | tk kvs => obtain ⟨vs, q, r0, r1, r2⟩ := h; exact ⟨vs, q, r0, r1.pushed hb hD hs, r2.pushed hb hD hs⟩
  | nk kvs => obtain ⟨vs, q, r0, r1, r2⟩ := h; exact ⟨vs, q, r0, r1.pushed hb hD hs, r2.pushed hb hD hs⟩
  | ft o ws kvs => obtain ⟨q, r0, r1, r2⟩ := h; exact ⟨q, r0, r1.pushed hb hD hs, r2.pushed hb hD hs⟩
  | fn o ws kvs => obtain ⟨q, r0, r1, r2⟩ := h; exact ⟨q, r0, r1.pushed hb hD hs, r2.pushed hb hD hs⟩
theorem WOk.pushed {D : Addr} (w : WOk K d H μ) (hb : D ∈ d.ban) (hD : ∀ ts, ¬ Rd H D (.tup ts)) {bn : List Addr} (hs : ∀ b ∈ bn, b ∈ d.ban) (hn : D ∉ bn) {m : MO} (hm : MOK K ⟨d.am ++ [D], bn⟩ H D m) : WOk K ⟨d.am ++ [D], bn⟩ H (μ ++ [m]) := by
  have na := (w.ban D hb).2
  refine ⟨by simp [w.len], ?_, fun i b m' h1 h2 => ?_, fun b hb' => ?_⟩
  · show (d.am ++ [D]).Nodup
    rw [List.nodup_append]
    exact ⟨w.nd, by simp, fun x hx y hy => by
      have : y = D := by simpa using hy
      subst this; rintro rfl; exact na hx⟩
  · replace h1 : (d.am ++ [D])[i]? = some b := h1
    by_cases hi : i < d.am.length
    · rw [List.getElem?_append_left hi] at h1
      rw [List.getElem?_append_left (by rw [← w.len]; exact hi)] at h2
      exact (w.ob i b m' h1 h2).pushed hb hD hs
    · have hi2 : i = d.am.length := by
        have := (List.getElem?_eq_some_iff.mp h1).1
        simp at this; omega
      subst hi2
      rw [List.getElem?_append_right (Nat.le_refl _)] at h1
      rw [w.len, List.getElem?_append_right (Nat.le_refl _)] at h2
      simp at h1 h2
      subst h1; subst h2
      exact hm
  · obtain ⟨x, y⟩ := w.ban b (hs b hb')
    exact ⟨x, fun z => (List.mem_append.mp z).elim y (fun z => by
      have e : b = D := by simpa using z
      subst e; exact hn hb')⟩
def mForL (g : MG) (b : MS) (P : MEnds) : List PV → PEnv → Store → Prop
  | [], ρ, μ => P.nx ρ μ
  | x :: xs, ρ, μ => g x ρ μ fun ρ1 μ1 => b { P with nx := mForL g b P xs, ct := mForL g b P xs, bk := P.nx } ρ1 μ1
def mFor (mi : MI) (g : MG) (b : MS) : MS := fun P ρ μ => mi ρ μ fun xs μ1 => mForL g b P xs ρ μ1
theorem drop_cons {α : Type} {xs : List α} {i : Nat} {x : α} (h : xs[i]? = some x) : xs.drop i = x :: xs.drop (i + 1) := by
  obtain ⟨hl, e⟩ := List.getElem?_eq_some_iff.mp h
  rw [List.drop_eq_getElem_cons hl, e]
instance {wi mi g mg s tb mb} [hi : FI K wi mi] [hg : FG K g mg s] [hb : FS K tb mb] : FS K (tFor wi g tb) (mFor mi mg mb) := ⟨fun d σ H ρ μ P D w e q l => by
  refine hi.run d σ H ρ μ _ _ w e q fun d1 H1 μ1 J xs e1 w1 it q1 => ?_
  refine ⟨fun i m σ' H' => ∃ d' ρ' μ', Ext d1 H1 d' H' ∧ WOk K d' H' μ' ∧ REnv K d' H' ρ' σ' ∧ i + m = xs.length ∧ mForL mg mb P (xs.drop i) ρ' μ', ⟨xs.length, d1, ρ, μ1, .refl, w1, e.mono e1, by omega, by simpa using q1⟩, fun i m σ' H' hW => ?_⟩
  obtain ⟨d2, ρ2, μ2, e2, w2, ee2, em, q2⟩ := hW
  obtain ⟨itg, its⟩ := it d1 d2 H' μ2 .refl e2 w2
  cases hx : xs[i]? with
  | none =>
    have hle : xs.length ≤ i := List.getElem?_eq_none_iff.mp hx
    rw [List.drop_of_length_le hle] at q2
    exact .inl ⟨its i hle, l.nx d2 σ' H' ρ2 μ2 (e1.trans e2) w2 ee2 q2⟩
  | some x =>
    have hlt : i < xs.length := (List.getElem?_eq_some_iff.mp hx).1
    rw [drop_cons hx] at q2
    obtain ⟨go, yl⟩ := itg i x hx
    refine .inr ⟨go, fun σ3 H3 => ∃ d' ρ' μ', Ext d1 H1 d' H3 ∧ WOk K d' H3 μ' ∧ REnv K d' H3 ρ' σ3 ∧ mForL mg mb P (xs.drop (i + 1)) ρ' μ', fun σ3 H3 hN => ?_, fun v H3 hy => ?_⟩
    · obtain ⟨d3, ρ3, μ3, a1, a2, a3, a4⟩ := hN
      exact ⟨m - 1, by omega, d3, ρ3, μ3, a1, a2, a3, by omega, a4⟩
    · obtain ⟨ey, wy, ry⟩ := yl v H3 hy
      refine hg.run d2 σ' H3 ρ2 μ2 x v _ _ wy (ee2.mono ey) ry q2 fun d4 σ4 H4 ρ4 μ4 e4 w4 ee4 _ _ q4 => ?_
      have E4 : Ext d H d4 H4 := ((e1.trans e2).trans ey).trans e4
      have E4' : Ext d1 H1 d4 H4 := (e2.trans ey).trans e4
      exact hb.run d4 σ4 H4 ρ4 μ4 _ _ w4 ee4 q4
        ⟨fun d5 σ5 H5 ρ5 μ5 e5 w5 ee5 q5 => ⟨d5, ρ5, μ5, E4'.trans e5, w5, ee5, q5⟩, fun d5 H5 μ5 x v e5 => l.rt d5 H5 μ5 x v (E4.trans e5),
         fun d5 σ5 H5 ρ5 μ5 e5 => l.nx d5 σ5 H5 ρ5 μ5 (E4.trans e5), fun d5 σ5 H5 ρ5 μ5 e5 w5 ee5 q5 => ⟨d5, ρ5, μ5, E4'.trans e5, w5, ee5, q5⟩⟩⟩
def mWhile (c : MT) (b : MS) : MS := fun P ρ μ => ∃ W : Nat → PEnv → Store → Prop, (∃ n, W n ρ μ) ∧ ∀ n ρ μ, W n ρ μ →
  c ρ μ fun x μ1 => if x = true then b { P with nx := fun ρ' μ' => ∃ n', n' < n ∧ W n' ρ' μ', ct := fun ρ' μ' => ∃ n', n' < n ∧ W n' ρ' μ', bk := P.nx } ρ μ1 else P.nx ρ μ1
instance {tc mc tb mb} [hc : FT K tc mc] [hb : FS K tb mb] : FS K (tWhile tc tb) (mWhile mc mb) := ⟨fun d σ H ρ μ P D w e q l => by
  obtain ⟨W, ⟨n0, w0⟩, turn⟩ := q
  refine ⟨fun n σ' H' => ∃ d' ρ' μ', Ext d H d' H' ∧ WOk K d' H' μ' ∧ REnv K d' H' ρ' σ' ∧ W n ρ' μ', ⟨n0, d, ρ, μ, .refl, w, e, w0⟩, fun n σ' H' hW => ?_⟩
  obtain ⟨d1, ρ1, μ1, e1, w1, ee1, q1⟩ := hW
  refine hc.run d1 σ' H' ρ1 μ1 _ _ w1 ee1 (turn n ρ1 μ1 q1) fun d2 H2 μ2 x e2 w2 q2 => ?_
  have E2 : Ext d H d2 H2 := e1.trans e2
  cases x
  · exact l.nx d2 σ' H2 ρ1 μ2 E2 w2 (ee1.mono e2) q2
  · refine ⟨fun σ3 H3 => ∃ n', n' < n ∧ ∃ d' ρ' μ', Ext d H d' H3 ∧ WOk K d' H3 μ' ∧ REnv K d' H3 ρ' σ3 ∧ W n' ρ' μ', fun σ3 H3 h => h, ?_⟩
    exact hb.run d2 σ' H2 ρ1 μ2 _ _ w2 (ee1.mono e2) q2
      ⟨fun d5 σ5 H5 ρ5 μ5 e5 w5 ee5 ⟨n', hn, q5⟩ => ⟨n', hn, d5, ρ5, μ5, E2.trans e5, w5, ee5, q5⟩, fun d5 H5 μ5 x v e5 => l.rt d5 H5 μ5 x v (E2.trans e5),
       fun d5 σ5 H5 ρ5 μ5 e5 => l.nx d5 σ5 H5 ρ5 μ5 (E2.trans e5), fun d5 σ5 H5 ρ5 μ5 e5 w5 ee5 ⟨n', hn, q5⟩ => ⟨n', hn, d5, ρ5, μ5, E2.trans e5, w5, ee5, q5⟩⟩⟩
def wipeP (ρ : PEnv) : List Nat → PEnv
  | [] => ρ
  | v :: vs => (wipeP ρ vs).set v none
theorem wipe_get (σ : L2.St) (i : Nat) : ∀ vs : List Nat, (wipe σ vs)[i]? = if i ∈ vs then (if i < σ.length then some none else none) else σ[i]?
  | [] => by simp [wipe]
  | v :: vs => by
    show ((wipe σ vs).set v none)[i]? = _
    rw [List.getElem?_set, wipe_get σ i vs, wipe_length]
    by_cases h : v = i
    · subst h
      rw [if_pos rfl, if_pos (List.mem_cons_self)]
    · rw [if_neg h]
      have e : (i ∈ v :: vs) = (i ∈ vs) := by
        simp [Ne.symm h]
      simp only [e]
theorem wipe_same {σ σ' : L2.St} {vs sl : List Nat} (hl : σ'.length = (wipe σ vs).length) (h : ∀ i, i ∉ sl → σ'[i]? = (wipe σ vs)[i]?) (hs : ∀ i ∈ sl, i ∈ vs) : wipe σ' vs = wipe σ vs := by
  rw [wipe_length] at hl
  apply List.ext_getElem?
  intro i
  rw [wipe_get, wipe_get, hl]
  by_cases hi : i ∈ vs
  · rw [if_pos hi, if_pos hi]
  · rw [if_neg hi, if_neg hi, h i (fun z => hi (hs i z)), wipe_get, if_neg hi]
theorem REnv.wipe {ρ : PEnv} {σ : L2.St} (e : REnv K d H ρ σ) : ∀ vs : List Nat, REnv K d H (wipeP ρ vs) (wipe σ vs)
  | [] => e
  | v :: vs => (REnv.wipe e vs).unset v
theorem REnv.bars {ρ : PEnv} {σ : L2.St} (b : Bars d d' H) (e : REnv K d H ρ σ) : REnv K d' H ρ σ :=
  ⟨e.1, fun i x q => let ⟨v, a, c⟩ := e.2 i x q; ⟨v, a, c.bars b⟩⟩
theorem WOk.barD {D : Addr} (w : WOk K d H μ) (h : H D = none) : WOk K ⟨d.am, D :: d.ban⟩ (upd H D (.lst [])) μ := by
  have b : Bars d ⟨d.am, D :: d.ban⟩ H := ⟨rfl, fun x q => (List.mem_cons.mp q).elim (fun z => .inr (by rw [z]; exact h)) .inl⟩
  refine ⟨w.len, w.nd, fun i a m h1 h2 => ?_, fun x hx => ?_⟩
  · have hm := w.ob i a m h1 h2
    have hne : a ≠ D := by rintro rfl; exact w.notin h (List.mem_of_getElem? h1)
    have e : Ext ⟨d.am, D :: d.ban⟩ H ⟨d.am, D :: d.ban⟩ (upd H D (.lst [])) := ⟨⟨[], by simp, fun p hp => by simp at hp⟩, rfl, fun b u e _ => by rw [upd_ne (ne_of_none e h)]; exact e⟩
    cases m with
    | lst xs => obtain ⟨vs, q, r⟩ := hm; exact ⟨vs, by rw [upd_ne hne]; exact q, (r.bars b).mono e⟩
    | dk kvs => obtain ⟨vs, q, r1, r2⟩ := hm; exact ⟨vs, by rw [upd_ne hne]; exact q, r1, (r2.bars b).mono e⟩
    | fd o ws kvs => obtain ⟨q, r1, r2⟩ := hm; exact ⟨by rw [upd_ne hne]; exact q, r1, (r2.bars b).mono e⟩
    | tk kvs => obtain ⟨vs, q, r0, r1, r2⟩ := hm; exact ⟨vs, by rw [upd_ne hne]; exact q, r0, (r1.bars b).mono e, (r2.bars b).mono e⟩
    | nk kvs => obtain ⟨vs, q, r0, r1, r2⟩ := hm; exact ⟨vs, by rw [upd_ne hne]; exact q, r0, (r1.bars b).mono e, (r2.bars b).mono e⟩
    | ft o ws kvs => obtain ⟨q, r0, r1, r2⟩ := hm; exact ⟨by rw [upd_ne hne]; exact q, r0, (r1.bars b).mono e, (r2.bars b).mono e⟩
    | fn o ws kvs => obtain ⟨q, r0, r1, r2⟩ := hm; exact ⟨by rw [upd_ne hne]; exact q, r0, (r1.bars b).mono e, (r2.bars b).mono e⟩
  · rcases List.mem_cons.mp hx with z | z
    · subst z
      exact ⟨by rw [upd_same]; simp, w.notin h⟩
    · obtain ⟨q1, q2⟩ := w.ban x z
      refine ⟨?_, q2⟩
      have hne : x ≠ D := by rintro rfl; exact q1 h
      rw [upd_ne hne]; exact q1
def mLcL (g : MG) (c : MT) (e : ME) (ρ0 : PEnv) (P : List PV → Store → Prop) : List PV → List PV → Store → Prop
  | [], acc, μ => P acc μ
  | x :: xs, acc, μ => g x ρ0 μ fun ρ1 μ1 => c ρ1 μ1 fun b μ2 => if b = true then e ρ1 μ2 fun y μ3 => mLcL g c e ρ0 P xs (acc ++ [y]) μ3 else mLcL g c e ρ0 P xs acc μ2
theorem lc_run {wi mi g mg s tt mt te me} {vs : List Nat} [hi : FI K wi mi] [hg : FG K g mg s] [hc : FT K tt mt] [he : FE K te me] {σ : L2.St} {ρ : PEnv} {P : List PV → Store → Prop} {Q : VK} (w : WOk K d H μ) (e : REnv K d H ρ σ) (hs : ∀ i ∈ s, i ∈ vs)
    (q : mi ρ μ fun xs μ1 => xs.length ≤ lim ∧ mLcL mg mt me (wipeP ρ vs) P xs [] μ1)
    (fin : ∀ (d1 : Wd) (H1 : Hp) (D : Addr) (dB : Wd) (H' : Hp) (μ' : Store) (acc : List PV) (avs : List V), Ext d H d1 H1 → H1 D = none → D ∉ d1.ban → Ext ⟨d1.am, D :: d1.ban⟩ H1 dB H' → WOk K dB H' μ' → H' D = some (.lst avs) → RVs K dB H' acc avs → P acc μ' → Q (.ref D) H') :
    tLc wi g tt te vs σ H Q := by
  refine hi.run d σ H ρ μ _ _ w e q fun d1 H1 μ1 J xs e1 w1 it ⟨hz, q1⟩ => ?_
  intro D hD
  have bD : Bars d1 ⟨d1.am, D :: d1.ban⟩ H1 := ⟨rfl, fun x q => (List.mem_cons.mp q).elim (fun z => .inr (by rw [z]; exact hD)) .inl⟩
  have envB : REnv K ⟨d1.am, D :: d1.ban⟩ H1 (wipeP ρ vs) (wipe σ vs) := ((e.mono e1).bars bD).wipe vs
  have lay0 : Ext ⟨d1.am, D :: d1.ban⟩ H1 ⟨d1.am, D :: d1.ban⟩ (upd H1 D (.lst [])) := ⟨⟨[], by simp, fun p hp => by simp at hp⟩, rfl, fun b u e _ => by rw [upd_ne (ne_of_none e hD)]; exact e⟩
  refine ⟨fun i m H' => ∃ dB μ' acc avs, Ext ⟨d1.am, D :: d1.ban⟩ H1 dB H' ∧ WOk K dB H' μ' ∧ H' D = some (.lst avs) ∧ RVs K dB H' acc avs ∧ i + m = xs.length ∧ acc.length ≤ i ∧ mLcL mg mt me (wipeP ρ vs) P (xs.drop i) acc μ',
    ⟨xs.length, _, μ1, [], [], lay0, w1.barD hD, upd_same, .nil, by omega, Nat.le_refl _, by simpa using q1⟩, fun i m H' hW => ?_⟩
  obtain ⟨dB, μ', acc, avs, eB, wB, hDv, rA, em, hal, q2⟩ := hW
  have hDban : D ∈ dB.ban := by rw [eB.ban]; exact List.mem_cons_self
  obtain ⟨itg, its⟩ := it _ dB H' μ' bD eB wB
  cases hx : xs[i]? with
  | none =>
    have hle : xs.length ≤ i := List.getElem?_eq_none_iff.mp hx
    rw [List.drop_of_length_le hle] at q2
    exact .inl ⟨its i hle, fin d1 H1 D dB H' μ' acc avs e1 hD (w1.notban hD) eB wB hDv rA q2⟩
  | some x =>
    have hlt : i < xs.length := (List.getElem?_eq_some_iff.mp hx).1
    rw [drop_cons hx] at q2
    obtain ⟨go, yl⟩ := itg i x hx
    refine .inr ⟨go, fun H3 => ∃ dB μ' acc avs, Ext ⟨d1.am, D :: d1.ban⟩ H1 dB H3 ∧ WOk K dB H3 μ' ∧ H3 D = some (.lst avs) ∧ RVs K dB H3 acc avs ∧ acc.length ≤ i + 1 ∧ mLcL mg mt me (wipeP ρ vs) P (xs.drop (i + 1)) acc μ', fun H3 hN => ?_, fun v H3 hy => ?_⟩
    · obtain ⟨a1, a2, a3, a4, a5, a6, a7, a8, a9, a10⟩ := hN
      exact ⟨m - 1, by omega, a1, a2, a3, a4, a5, a6, a7, a8, by omega, a9, a10⟩
    · obtain ⟨ey, wy, ry⟩ := yl v H3 hy
      refine hg.run dB (wipe σ vs) H3 (wipeP ρ vs) μ' x v _ _ wy (envB.mono (eB.trans ey)) ry q2 fun d4 σ4 H4 ρ4 μ4 e4 w4 ee4 hl4 hs4 q4 => ⟨wipe_same hl4 hs4 hs, ?_⟩
      refine hc.run d4 σ4 H4 ρ4 μ4 _ _ w4 ee4 q4 fun d5 H5 μ5 b e5 w5 q5 => ?_
      have nD : D ∉ dB.am := (wB.ban D hDban).2
      have E5 : Ext dB H' d5 H5 := (ey.trans e4).trans e5
      cases b
      · exact ⟨d5, μ5, acc, avs, eB.trans E5, w5, E5.keep _ _ hDv nD, rA.mono E5, by omega, q5⟩
      · refine he.run d5 σ4 H5 ρ4 μ5 _ _ w5 (ee4.mono e5) q5 fun d6 H6 μ6 y u e6 w6 r6 q6 => ?_
        have E6 : Ext dB H' d6 H6 := E5.trans e6
        have hD6 : H6 D = some (.lst avs) := E6.keep _ _ hDv nD
        have ban6 : D ∈ d6.ban := by rw [E6.ban]; exact hDban
        have rA6 := (rA.mono E6).append (.cons r6 .nil)
        refine ⟨avs, hD6, by rw [← rA.length]; exact lim_lt' (by omega), d6, μ6, acc ++ [y], avs ++ [u], ?_, w6.made ban6 (no_tup hD6), upd_same, rA6.made ban6 (no_tup hD6), by rw [List.length_append]; simp; omega, q6⟩
        have E7 := eB.trans E6
        exact ⟨E7.am, E7.ban, fun b o hb hn => by rw [upd_ne (ne_of_none hb hD)]; exact E7.keep b o hb hn⟩
theorem lc_frozen {d1 dB : Wd} {H1 : Hp} {D : Addr} {acc : List PV} {avs : List V} (e1 : Ext d H d1 H1) (hD : H1 D = none) (hDn : D ∉ d1.ban) (eB : Ext ⟨d1.am, D :: d1.ban⟩ H1 dB H') (w : WOk K dB H' μ) (hv : H' D = some (.lst avs)) (r : RVs K dB H' acc avs) :
    Ext d H ⟨dB.am, d1.ban⟩ H' ∧ WOk K ⟨dB.am, d1.ban⟩ H' μ ∧ RV K ⟨dB.am, d1.ban⟩ H' (.lst acc) (.ref D) := by
  have hs : ∀ b ∈ d1.ban, b ∈ dB.ban := fun b hb => by rw [eB.ban]; exact List.mem_cons_of_mem _ hb
  have hb : D ∈ dB.ban := by rw [eB.ban]; exact List.mem_cons_self
  refine ⟨e1.trans ⟨eB.am, rfl, eB.keep⟩, w.less hs, .lst ⟨hv, (w.ban D hb).2, hDn⟩ (r.less hs)⟩
def mLc (mi : MI) (g : MG) (c : MT) (e : ME) (s vs : List Nat) : ME := fun ρ μ P => (∀ i ∈ s, i ∈ vs) ∧ mi ρ μ fun xs μ1 => xs.length ≤ lim ∧ mLcL g c e (wipeP ρ vs) (fun acc μ2 => P (.lst acc) μ2) xs [] μ1
def mLcM (mi : MI) (g : MG) (c : MT) (e : ME) (s vs : List Nat) : ME := fun ρ μ P => (∀ i ∈ s, i ∈ vs) ∧ mi ρ μ fun xs μ1 => xs.length ≤ lim ∧ mLcL g c e (wipeP ρ vs) (fun acc μ2 => P (.mr μ2.length) (μ2 ++ [.lst acc])) xs [] μ1
instance {wi mi g mg s tt mt te me vs} [hi : FI K wi mi] [hg : FG K g mg s] [hc : FT K tt mt] [he : FE K te me] : FE K (tLc wi g tt te vs) (mLc mi mg mt me s vs) := ⟨fun d σ H ρ μ P Q w e q k => by
  refine lc_run w e q.1 q.2 fun d1 H1 D dB H' μ' acc avs e1 hD hDn eB w' hv r p => ?_
  obtain ⟨x1, x2, x3⟩ := lc_frozen e1 hD hDn eB w' hv r
  exact k _ H' μ' _ _ x1 x2 x3 p⟩
end
end Fx
namespace Fx
open PySem PySem.Spec PyProof.Rows L2 RZ
def iSeq (K : PySem.W.Frag) (tl : TE) : TI := fun σ H R => tl σ H fun x H1 => ∃ a, x = .ref a ∧ (((∃ xs, SqL K H1 a xs) ∧ R (Itl K a) H1) ∨ ((∃ xs, SqT K H1 a xs) ∧ R (Itt K a) H1))
theorem pi_seq {X : Cx} {tg l : Expr} {tl : TE} (hl : PE X l tl) : PI X tg l (iSeq X.K tl) := by
  refine ⟨fun pins s σ H R I h => thn (hl.run pins s σ H _ I h) fun v s1 hq => ?_⟩
  obtain ⟨x, H1, I1, r1, a, e, q⟩ := hq
  subst e
  cases r1
  have fr : ∀ b ∈ [s1.heap.objs.size], FpOk X pins H1 b := fun b hb => by
    have e := List.mem_singleton.mp hb
    subst e
    exact I1.fpOk (Nat.le_refl _) (I1.hok.fresh (Nat.le_refl _))
  rcases q with ⟨⟨xs, hq⟩, q⟩ | ⟨⟨xs, hq⟩, q⟩
  · obtain ⟨its, rv, p, hz⟩ := I1.list hq
    refine wpAny_pyIter_list p.isList ?_
    exact ⟨_, _, _, _, H1, rfl, I1.kept (t' := s1.toks) fun b o e => Heap.get?_push_of_some _ e, turn_list a _, ⟨_, Heap.get?_push_size _ rfl, rfl, rfl⟩, fr, q⟩
  · obtain ⟨its, rv, p, hz⟩ := I1.tuple hq
    refine wpAny_pyIter_tuple (show s1.heap.IsTuple a its.toArray from p) ?_
    exact ⟨_, _, _, _, H1, rfl, I1.kept (t' := s1.toks) fun b o e => Heap.get?_push_of_some _ e, turn_tuple a _, ⟨_, Heap.get?_push_size _ rfl, rfl, rfl⟩, fr, q⟩
section
variable {K : PySem.W.Frag} {d d' : Wd} {H H' : Hp} {a b : Addr} {vs us : List V} {xs ys : List PV} {μ : Store}
theorem it_tup (h : TupAt K d H a vs) (r : RVs K d H xs vs) : ItOk (K := K) d H (Itt K a) xs := fun d1 d2 H2 μ2 bb e w => by
  have h2 : TupAt K d2 H2 a vs := e.tupAt (h.imp (fun z => ⟨z.1, by rw [bb.1]; exact z.2⟩) id)
  have r2 : RVs K d2 H2 xs vs := (r.bars bb).mono e
  refine ⟨fun i x hx => ?_, fun i hi => ⟨vs, h2.sq, by rw [← r2.length]; exact hi⟩⟩
  obtain ⟨v, hv, rv⟩ := r2.get hx
  refine ⟨⟨vs, v, h2.sq, hv⟩, fun u H3 hy => ?_⟩
  obtain ⟨rfl, f⟩ := hy
  have e1 := f vs h2.sq
  rw [hv] at e1; cases e1
  exact ⟨.refl, w, rv⟩
theorem it_kl (h : KlAt K d H a vs) (r : RVs K d H xs vs) : ItOk (K := K) d H (Itl K a) xs := fun d1 d2 H2 μ2 bb e w => by
  have h2 : KlAt K d2 H2 a vs := e.klAt (h.imp (fun z => ⟨z.1, by rw [bb.1]; exact z.2.1, fun q => (bb.2 _ q).elim z.2.2 (Rd.ne z.1)⟩) id)
  have r2 : RVs K d2 H2 xs vs := (r.bars bb).mono e
  refine ⟨fun i x hx => ?_, fun i hi => ⟨vs, h2.sq, by rw [← r2.length]; exact hi⟩⟩
  obtain ⟨v, hv, rv⟩ := r2.get hx
  refine ⟨⟨vs, v, h2.sq, hv⟩, fun u H3 hy => ?_⟩
  obtain ⟨rfl, f⟩ := hy
  have e1 := f vs h2.sq
  rw [hv] at e1; cases e1
  exact ⟨.refl, w, rv⟩
theorem it_lst (h : LstAt d H a vs) (r : RVs K d H xs vs) : ItOk (K := K) d H (Itl K a) xs := it_kl (.inl ⟨.inl h.1, h.2⟩) r
def mSeqI (m : ME) : MI := fun ρ μ P => m ρ μ fun x μ1 => match x with | .tup xs => P xs μ1 | .lst xs => P xs μ1 | .kl xs => P xs μ1 | _ => False
instance {t m} [h : FE K t m] : FI K (iSeq K t) (mSeqI m) := ⟨fun d σ H ρ μ P R w e q k => by
  refine h.run d σ H ρ μ _ _ w e q fun d1 H1 μ1 x v e1 w1 r1 q1 => ?_
  cases x <;> try exact q1.elim
  · cases r1 with
    | tup ha hr => exact ⟨_, rfl, .inr ⟨⟨_, ha.sq⟩, k d1 H1 μ1 _ _ e1 w1 (it_tup ha hr) q1⟩⟩
  · cases r1 with
    | lst ha hr => exact ⟨_, rfl, .inl ⟨⟨_, ha.sq⟩, k d1 H1 μ1 _ _ e1 w1 (it_lst ha hr) q1⟩⟩
  · cases r1 with
    | kl ha hr => exact ⟨_, rfl, .inl ⟨⟨_, ha.sq⟩, k d1 H1 μ1 _ _ e1 w1 (it_kl ha hr) q1⟩⟩⟩
def rangeP (lo : Int) (n : Nat) : List PV := (List.range n).map fun i => .int (lo + (i : Nat))
theorem rangeP_get {lo : Int} {n i : Nat} {x : PV} (h : (rangeP lo n)[i]? = some x) : i < n ∧ x = .int (lo + (i : Nat)) := by
  unfold rangeP at h
  rw [List.getElem?_map] at h
  cases e : (List.range n)[i]? with
  | none => rw [e] at h; cases h
  | some j =>
    rw [e] at h; cases h
    obtain ⟨h1, h2⟩ := List.getElem?_eq_some_iff.mp e
    rw [List.length_range] at h1
    rw [List.getElem_range] at h2
    subst h2
    exact ⟨h1, rfl⟩
theorem it_rng (lo : Int) (n : Nat) : ItOk (K := K) d H (Itr lo n) (rangeP lo n) := fun d1 d2 H2 μ2 bb e w => by
  refine ⟨fun i x hx => ?_, fun i hi => show n ≤ i by simpa [rangeP] using hi⟩
  obtain ⟨h1, rfl⟩ := rangeP_get hx
  refine ⟨h1, fun u H3 hy => ?_⟩
  obtain ⟨rfl, rfl⟩ := hy
  exact ⟨.refl, w, .int _⟩
def mRng1 (m : MA) : MI := fun ρ μ P => m ρ μ fun xs μ1 => match xs with | [.int j] => (-4000000000000000000 ≤ j ∧ j ≤ 4000000000000000000) ∧ P (rangeP 0 j.toNat) μ1 | _ => False
def mRng2 (m : MA) : MI := fun ρ μ P => m ρ μ fun xs μ1 => match xs with | [.int i, .int j] => (-1000000000000 ≤ i ∧ i ≤ 1000000000000 ∧ -1000000000000 ≤ j ∧ j ≤ 1000000000000) ∧ P (rangeP i (j - i).toNat) μ1 | _ => False
instance {t m} [h : FA K t m] : FI K (iRng1 t) (mRng1 m) := ⟨fun d σ H ρ μ P R w e q k => by
  refine h.run d σ H ρ μ _ _ w e q fun d1 H1 μ1 xs vs e1 w1 r1 q1 => ?_
  match xs, r1, q1 with
  | [.int j], .cons (.int _) .nil, ⟨z, q1⟩ => exact ⟨j, rfl, by omega, by omega, k d1 H1 μ1 _ _ e1 w1 (it_rng 0 j.toNat) q1⟩⟩
instance {t m} [h : FA K t m] : FI K (iRng2 t) (mRng2 m) := ⟨fun d σ H ρ μ P R w e q k => by
  refine h.run d σ H ρ μ _ _ w e q fun d1 H1 μ1 xs vs e1 w1 r1 q1 => ?_
  match xs, r1, q1 with
  | [.int i, .int j], .cons (.int _) (.cons (.int _) .nil), ⟨z, q1⟩ => exact ⟨i, j, rfl, by omega, k d1 H1 μ1 _ _ e1 w1 (it_rng i (j - i).toNat) q1⟩⟩
def zipP : List PV → List PV → List PV
  | x :: xs, y :: ys => .tup [x, y] :: zipP xs ys
  | _, _ => []
theorem zipP_get : ∀ {xs ys : List PV} {i : Nat} {z : PV}, (zipP xs ys)[i]? = some z → ∃ x y, xs[i]? = some x ∧ ys[i]? = some y ∧ z = .tup [x, y]
  | [], _, _, _, h => by simp [zipP] at h
  | _ :: _, [], _, _, h => by simp [zipP] at h
  | x :: xs, y :: ys, 0, z, h => by
    simp [zipP] at h
    exact ⟨x, y, rfl, rfl, h.symm⟩
  | x :: xs, y :: ys, i + 1, z, h => by
    simp only [zipP, List.getElem?_cons_succ] at h
    obtain ⟨a, b, h1, h2, h3⟩ := zipP_get h
    exact ⟨a, b, by simpa using h1, by simpa using h2, h3⟩
theorem zipP_length : ∀ xs ys : List PV, (zipP xs ys).length = min xs.length ys.length
  | [], _ => by simp [zipP]
  | _ :: _, [] => by simp [zipP]
  | x :: xs, y :: ys => by simp [zipP, zipP_length xs ys]
theorem tup_pair {x y : PV} {v u : V} {T : Addr} (w : WOk K d H μ) (hT : H T = none) (rx : RV K d H x v) (ry : RV K d H y u) : Ext d H d (upd H T (.tup [v, u])) ∧ WOk K d (upd H T (.tup [v, u])) μ ∧ RV K d (upd H T (.tup [v, u])) (.tup [x, y]) (.ref T) :=
  ⟨Ext.lay w hT, w.lay hT, lay_tup w (.cons rx (.cons ry .nil)) hT⟩
theorem it_zipT (h : TupAt K d H a vs) (r : RVs K d H xs vs) (h' : TupAt K d H b us) (r' : RVs K d H ys us) : ItOk (K := K) d H (ItzT K a b) (zipP xs ys) := fun d1 d2 H2 μ2 bb e w => by
  have h2 : TupAt K d2 H2 a vs := e.tupAt (h.imp (fun z => ⟨z.1, by rw [bb.1]; exact z.2⟩) id)
  have r2 : RVs K d2 H2 xs vs := (r.bars bb).mono e
  have h2' : TupAt K d2 H2 b us := e.tupAt (h'.imp (fun z => ⟨z.1, by rw [bb.1]; exact z.2⟩) id)
  have r2' : RVs K d2 H2 ys us := (r'.bars bb).mono e
  refine ⟨fun i z hz => ?_, fun i hi => ⟨vs, us, h2.sq, h2'.sq, ?_⟩⟩
  · obtain ⟨x, y, hx, hy, rfl⟩ := zipP_get hz
    obtain ⟨v, hv, rv⟩ := r2.get hx
    obtain ⟨u, hu, ru⟩ := r2'.get hy
    refine ⟨⟨vs, us, v, u, h2.sq, h2'.sq, hv, hu⟩, fun t H3 hy => ?_⟩
    obtain ⟨T, x', y', rfl, hT, rfl, f, g⟩ := hy
    have e1 := f vs h2.sq
    have e2 := g us h2'.sq
    rw [hv] at e1; cases e1
    rw [hu] at e2; cases e2
    exact tup_pair w hT rv ru
  · rw [zipP_length] at hi
    rw [← r2.length, ← r2'.length]
    omega
theorem it_zipL (h : LstAt d H a vs) (r : RVs K d H xs vs) (h' : LstAt d H b us) (r' : RVs K d H ys us) : ItOk (K := K) d H (Itz K a b) (zipP xs ys) := fun d1 d2 H2 μ2 bb e w => by
  have bl : ∀ {c : Addr} {ws : List V}, LstAt d H c ws → LstAt d2 H2 c ws := fun h => e.lstAt ⟨h.1, by rw [bb.1]; exact h.2.1, fun q => (bb.2 _ q).elim h.2.2 (by rw [h.1]; simp)⟩
  have h2 := bl h
  have r2 : RVs K d2 H2 xs vs := (r.bars bb).mono e
  have h2' := bl h'
  have r2' : RVs K d2 H2 ys us := (r'.bars bb).mono e
  refine ⟨fun i z hz => ?_, fun i hi => ⟨vs, us, h2.sq, h2'.sq, ?_⟩⟩
  · obtain ⟨x, y, hx, hy, rfl⟩ := zipP_get hz
    obtain ⟨v, hv, rv⟩ := r2.get hx
    obtain ⟨u, hu, ru⟩ := r2'.get hy
    refine ⟨⟨vs, us, v, u, h2.sq, h2'.sq, hv, hu⟩, fun t H3 hy => ?_⟩
    obtain ⟨T, x', y', rfl, hT, rfl, f, g⟩ := hy
    have e1 := f vs h2.sq
    have e2 := g us h2'.sq
    rw [hv] at e1; cases e1
    rw [hu] at e2; cases e2
    exact tup_pair w hT rv ru
  · rw [zipP_length] at hi
    rw [← r2.length, ← r2'.length]
    omega
def mZip (m : MA) : MI := fun ρ μ P => m ρ μ fun zs μ1 => match zs with | [.tup xs, .tup ys] => P (zipP xs ys) μ1 | [.lst xs, .lst ys] => P (zipP xs ys) μ1 | _ => False
instance {t m} [h : FA K t m] : FI K (iZipA K t) (mZip m) := ⟨fun d σ H ρ μ P R w e q k => by
  refine h.run d σ H ρ μ _ _ w e q fun d1 H1 μ1 zs vs e1 w1 r1 q1 => ?_
  match zs, r1, q1 with
  | [.tup xs, .tup ys], .cons (.tup ha hr) (.cons (.tup ha' hr') .nil), q1 => exact ⟨_, _, _, _, rfl, .inr ⟨ha.sq, ha'.sq, k d1 H1 μ1 _ _ e1 w1 (it_zipT ha hr ha' hr') q1⟩⟩
  | [.lst xs, .lst ys], .cons (.lst ha hr) (.cons (.lst ha' hr') .nil), q1 => exact ⟨_, _, _, _, rfl, .inl ⟨ha.sq, ha'.sq, k d1 H1 μ1 _ _ e1 w1 (it_zipL ha hr ha' hr') q1⟩⟩⟩
end
end Fx
namespace Fx
open PySem PySem.Spec PyProof.Rows L2 RZ
section
variable {K : PySem.W.Frag} {d d' : Wd} {H H' : Hp} {a b : Addr} {vs us : List V} {xs ys : List PV} {μ : Store}
theorem WOk.obj (w : WOk K d H μ) {n : Nat} {m : MO} (h : d.am[n]? = some a) (hm : μ[n]? = some m) : MOK K d H a m := w.ob n a m h hm
theorem RVs.atI {i : Int} {x : PV} (r : RVs K d H xs vs) (h : atI xs i = some x) : ∃ v, L2.atI vs i = some v ∧ RV K d H x v := by
  unfold L2.atI at h ⊢
  rw [← r.length]
  cases e : ixN xs.length i with
  | none => rw [e] at h; cases h
  | some j =>
    rw [e] at h
    exact r.get h
def itemsOf (x : PV) (μ : Store) : Option (List PV) := match x with
  | .tup xs => some xs
  | .lst xs => some xs
  | .kl xs => some xs
  | .mr n => match μ[n]? with | some (.lst xs) => some xs | _ => none
  | _ => none
def pIx : MO2 := fun x y μ P => match y with | .int i => (match itemsOf x μ with | some xs => (match atI xs i with | some v => P v μ | none => False) | none => False) | _ => False
theorem seq_of {x : PV} {v : V} (w : WOk K d H μ) (r : RV K d H x v) (h : itemsOf x μ = some xs) : ∃ a vs, v = .ref a ∧ RVs K d H xs vs ∧ (SqL K H a vs ∨ SqT K H a vs) := by
  cases r with
  | tup h1 h2 => cases h; exact ⟨_, _, rfl, h2, .inr h1.sq⟩
  | lst h1 h2 => cases h; exact ⟨_, _, rfl, h2, .inl h1.sq⟩
  | kl h1 h2 => cases h; exact ⟨_, _, rfl, h2, .inl h1.sq⟩
  | @mr n a h1 =>
    unfold itemsOf at h
    cases e : μ[n]? with
    | none => simp [e] at h
    | some m =>
      cases m with
      | lst zs =>
        simp [e] at h
        subst h
        obtain ⟨vs, q, r⟩ := w.obj h1 e
        exact ⟨_, _, rfl, r, .inl (.of q)⟩
      | dk _ => simp [e] at h
      | fd _ _ _ => simp [e] at h
      | tk _ => simp [e] at h
      | nk _ => simp [e] at h
      | ft _ _ _ => simp [e] at h
      | fn _ _ _ => simp [e] at h
  | _ => cases h
instance : F2 K (rIx K) pIx := ⟨fun d H μ x y v u P Q w r1 r2 q k => by
  unfold pIx at q
  cases y <;> try exact q.elim
  cases r2
  rename_i i
  cases e : itemsOf x μ with
  | none => rw [e] at q; exact q.elim
  | some xs =>
    rw [e] at q
    simp only at q
    obtain ⟨a, vs, rfl, rv, hq⟩ := seq_of w r1 e
    cases e2 : atI xs i with
    | none => rw [e2] at q; exact q.elim
    | some z =>
      rw [e2] at q
      obtain ⟨v', hv, rz⟩ := rv.atI e2
      have fin := k d H μ _ _ .refl w rz q
      rcases hq with hq | hq
      · exact .inl ⟨a, vs, i, v', rfl, rfl, hq, hv, fin⟩
      · exact .inr (.inl ⟨a, vs, i, v', rfl, rfl, hq, hv, fin⟩)⟩
def scalP : PV → PV → Option Bool
  | .int i, .int j => some (decide (i = j))
  | .bl i, .bl j => some (decide (i = j))
  | .str i, .str j => some (decide (i = j))
  | .non, .non => some true
  | .non, .int _ => some false | .int _, .non => some false | .non, .bl _ => some false | .bl _, .non => some false | .non, .str _ => some false | .str _, .non => some false
  | .int _, .str _ => some false | .str _, .int _ => some false | .bl _, .str _ => some false | .str _, .bl _ => some false
  | _, _ => none
mutual
def datP : PV → Option PyData
  | .non => some .none
  | .bl b => some (.bool b)
  | .int i => some (.int i)
  | .str x => some (.str x)
  | .tup xs => (datPs xs).map .tuple
  | .lst xs => (datPs xs).map .list
  | .ty _ => none
  | .kl _ => none
  | .mr _ => none
def datPs : List PV → Option (List PyData)
  | [] => some []
  | x :: xs => match datP x, datPs xs with | some d, some ds => some (d :: ds) | _, _ => none
end
mutual
theorem dat_dp : ∀ {x : PV} {v : V} {e : PyData}, RV K d H x v → datP x = some e → Dp K H v e
  | _, _, _, .non, h => by cases h; exact .non
  | _, _, _, .bl b, h => by cases h; exact .bl b
  | _, _, _, .int i, h => by cases h; exact .int i
  | _, _, _, .str x, h => by cases h; exact .str x
  | _, _, _, .ty n, h => by simp [datP] at h
  | .tup xs, _, _, .tup h1 r, h => by
    simp only [datP] at h
    cases e : datPs xs with
    | none => rw [e] at h; cases h
    | some ds => rw [e] at h; cases h; exact .tup h1.sq (dats_dp r e)
  | .lst xs, _, _, .lst h1 r, h => by
    simp only [datP] at h
    cases e : datPs xs with
    | none => rw [e] at h; cases h
    | some ds => rw [e] at h; cases h; exact .lst h1.sq (dats_dp r e)
  | _, _, _, .kl _ _, h => by simp [datP] at h
  | _, _, _, .mr n, h => by simp [datP] at h
theorem dats_dp : ∀ {xs : List PV} {vs : List V} {es : List PyData}, RVs K d H xs vs → datPs xs = some es → DpAll K H vs es
  | _, _, _, .nil, h => by simp [datPs] at h; subst h; exact .nil
  | x :: xs, _, _, .cons r t, h => by
    simp only [datPs] at h
    cases e1 : datP x with
    | none => rw [e1] at h; simp at h
    | some d1 =>
      cases e2 : datPs xs with
      | none => rw [e1, e2] at h; simp at h
      | some ds => rw [e1, e2] at h; simp at h; subst h; exact .cons (dat_dp r e1) (dats_dp t e2)
end
def frzP (x : PV) (μ : Store) : PV := match x with | .mr n => (match μ[n]? with | some (.lst xs) => .lst xs | _ => x) | _ => x
theorem frz_dp {x : PV} {v : V} {e : PyData} (w : WOk K d H μ) (r : RV K d H x v) (h : datP (frzP x μ) = some e) : Dp K H v e := by
  match x, r, h with
  | .mr n, .mr (a := a) h1, h =>
    unfold frzP at h
    cases q : μ[n]? with
    | none => simp [q, datP] at h
    | some m =>
      cases m with
      | dk _ => simp [q, datP] at h
      | fd _ _ _ => simp [q, datP] at h
      | tk _ => simp [q, datP] at h
      | nk _ => simp [q, datP] at h
      | ft _ _ _ => simp [q, datP] at h
      | fn _ _ _ => simp [q, datP] at h
      | lst zs =>
        simp only [q, datP] at h
        cases e : datPs zs with
        | none => rw [e] at h; cases h
        | some ds =>
          rw [e] at h; cases h
          obtain ⟨vs, q, r⟩ := w.obj h1 q
          exact .lst (.of q) (dats_dp r e)
  | .non, r, h => exact dat_dp r h
  | .bl _, r, h => exact dat_dp r h
  | .int _, r, h => exact dat_dp r h
  | .str _, r, h => exact dat_dp r h
  | .ty _, r, h => exact dat_dp r h
  | .tup _, r, h => exact dat_dp r h
  | .lst _, r, h => exact dat_dp r h
  | .kl _, r, h => exact dat_dp r h
def eqP (x y : PV) (μ : Store) : Option Bool := match scalP x y with
  | some b => some b
  | none => match datP (frzP x μ), datP (frzP y μ) with
    | some a, some b => if SeqAt.shaped a = true ∧ SeqAt.shaped b = true then some (PyData.eqv a b) else none
    | _, _ => none
def rEqX (K : PySem.W.Frag) : R2 := fun x y H Q => rEq x y H Q ∨ rEqD K x y H Q
def rNeX (K : PySem.W.Frag) : R2 := fun x y H Q => rNe x y H Q ∨ rNeD K x y H Q
theorem op_eqX {X : Cx} (hu : X.A.units + 64 < cLine) : OpR X (compareOp .Eq) (rEqX X.K) := fun pins s σ H x y v u Q I rx ry h =>
  h.elim (op_eq pins s σ H x y v u Q I rx ry) (op_eqD hu pins s σ H x y v u Q I rx ry)
theorem op_neX {X : Cx} (hu : X.A.units + 64 < cLine) : OpR X (compareOp .NotEq) (rNeX X.K) := fun pins s σ H x y v u Q I rx ry h =>
  h.elim (op_ne pins s σ H x y v u Q I rx ry) (op_neD hu pins s σ H x y v u Q I rx ry)
def pEq : MO2 := fun x y μ P => match eqP x y μ with | some b => P (.bl b) μ | none => False
def pNe : MO2 := fun x y μ P => match eqP x y μ with | some b => P (.bl (!b)) μ | none => False
theorem scal_rv {x y : PV} {v u : V} {c : Bool} (r1 : RV K d H x v) (r2 : RV K d H y u) (h : scalP x y = some c) : scal v u = true ∧ decide (v = u) = c := by
  cases r1 <;> cases r2 <;> simp [scalP] at h <;> subst h <;> simp [scal]
theorem eq_run {x y : PV} {v u : V} {c : Bool} (w : WOk K d H μ) (r1 : RV K d H x v) (r2 : RV K d H y u) (h : eqP x y μ = some c) :
    (scal v u = true ∧ decide (v = u) = c) ∨ ∃ a b, Dp K H v a ∧ Dp K H u b ∧ SeqAt.shaped a = true ∧ SeqAt.shaped b = true ∧ PyData.eqv a b = c := by
  unfold eqP at h
  cases e : scalP x y with
  | some c' => rw [e] at h; cases h; exact .inl (scal_rv r1 r2 e)
  | none =>
    rw [e] at h
    simp only at h
    cases e1 : datP (frzP x μ) with
    | none => rw [e1] at h; cases h
    | some a =>
      cases e2 : datP (frzP y μ) with
      | none => rw [e1, e2] at h; cases h
      | some b =>
        rw [e1, e2] at h
        simp only at h
        split at h
        · rename_i hs
          cases h
          exact .inr ⟨a, b, frz_dp w r1 e1, frz_dp w r2 e2, hs.1, hs.2, rfl⟩
        · cases h
instance : F2 K (rEqX K) pEq := ⟨fun d H μ x y v u P Q w r1 r2 q k => by
  unfold pEq at q
  cases e : eqP x y μ with
  | none => rw [e] at q; exact q.elim
  | some c =>
    rw [e] at q
    have fin := k d H μ _ _ .refl w (.bl c) q
    rcases eq_run w r1 r2 e with ⟨h1, h2⟩ | ⟨a, b, h1, h2, h3, h4, h5⟩
    · exact .inl ⟨h1, by rw [h2]; exact fin⟩
    · exact .inr ⟨a, b, h1, h2, h3, h4, by rw [h5]; exact fin⟩⟩
instance : F2 K (rNeX K) pNe := ⟨fun d H μ x y v u P Q w r1 r2 q k => by
  unfold pNe at q
  cases e : eqP x y μ with
  | none => rw [e] at q; exact q.elim
  | some c =>
    rw [e] at q
    have fin := k d H μ _ _ .refl w (.bl (!c)) q
    rcases eq_run w r1 r2 e with ⟨h1, h2⟩ | ⟨a, b, h1, h2, h3, h4, h5⟩
    · exact .inl ⟨h1, by rw [h2]; exact fin⟩
    · exact .inr ⟨a, b, h1, h2, h3, h4, by rw [h5]; exact fin⟩⟩
def flatP : PV → Bool
  | .non => true | .bl _ => true | .int _ => true | .str _ => true | _ => false
def eqFlat : PV → PV → Bool
  | .non, .non => true
  | .bl a, .bl b => a == b
  | .bl a, .int b => (if a then 1 else 0) == b
  | .int a, .bl b => a == (if b then 1 else 0)
  | .int a, .int b => a == b
  | .str a, .str b => a == b
  | _, _ => false
def inP (x : PV) (xs : List PV) : Bool := xs.any fun y => eqFlat y x
theorem flat_rv {x : PV} {v : V} (r : RV K d H x v) : flatP x = true → flatV v = true := by
  cases r <;> simp [flatP, flatV]
theorem flats_rv : ∀ {xs : List PV} {vs : List V}, RVs K d H xs vs → xs.all flatP = true → vs.all flatV = true
  | _, _, .nil, _ => rfl
  | _, _, .cons r t, h => by
    rw [List.all_cons, Bool.and_eq_true] at h ⊢
    exact ⟨flat_rv r h.1, flats_rv t h.2⟩
theorem eqFlat_rv {x y : PV} {v u : V} (r : RV K d H x v) (r' : RV K d H y u) (h : flatP x = true) (h' : flatP y = true) : eqV v u = eqFlat x y := by
  cases r <;> simp [flatP] at h <;> cases r' <;> simp [flatP] at h' <;> rfl
theorem in_rv {x : PV} {v : V} (r : RV K d H x v) (h : flatP x = true) : ∀ {xs : List PV} {vs : List V}, RVs K d H xs vs → xs.all flatP = true → inV v vs = inP x xs
  | _, _, .nil, _ => rfl
  | _, _, .cons r' t, h' => by
    rw [List.all_cons, Bool.and_eq_true] at h'
    show ((eqV _ v) || inV v _) = (eqFlat _ x || inP x _)
    rw [eqFlat_rv r' r h'.1 h, in_rv r h t h'.2]
def pIn (neg : Bool) : MO2 := fun x y μ P => match itemsOf y μ with | some xs => (flatP x = true ∧ xs.all flatP = true) ∧ P (.bl (if neg then !inP x xs else inP x xs)) μ | none => False
instance {neg} : F2 K (rIn K neg) (pIn neg) := ⟨fun d H μ x y v u P Q w r1 r2 q k => by
  unfold pIn at q
  cases e : itemsOf y μ with
  | none => rw [e] at q; exact q.elim
  | some xs =>
    rw [e] at q
    obtain ⟨⟨h1, h2⟩, q⟩ := q
    obtain ⟨a, vs, rfl, rv, hq⟩ := seq_of w r2 e
    refine ⟨a, vs, rfl, hq, flat_rv r1 h1, flats_rv rv h2, ?_⟩
    rw [in_rv r1 h1 rv h2]
    exact k d H μ _ _ .refl w (.bl _) q⟩
def pIsB (neg : Bool) : MO2 := fun x y μ P => match x, y with | .bl a, .bl b => P (.bl (if neg then !decide (a = b) else decide (a = b))) μ | _, _ => False
instance : F2 K rIsB (pIsB false) := ⟨fun d H μ x y v u P Q w r1 r2 q k => by
  cases x <;> try exact q.elim
  cases y <;> try exact q.elim
  cases r1; cases r2
  exact ⟨_, _, rfl, rfl, k d H μ _ _ .refl w (.bl _) q⟩⟩
instance : F2 K rNotB (pIsB true) := ⟨fun d H μ x y v u P Q w r1 r2 q k => by
  cases x <;> try exact q.elim
  cases y <;> try exact q.elim
  cases r1; cases r2
  exact ⟨_, _, rfl, rfl, k d H μ _ _ .refl w (.bl _) q⟩⟩
class FO (K : PySem.W.Frag) (t : TO) (m : outParam (PEnv → Store → (Option Int → Store → Prop) → Prop)) : Prop where
  run : ∀ (d : Wd) (σ : L2.St) (H : Hp) (ρ : PEnv) (μ : Store) (P : Option Int → Store → Prop) (Q : Option Int → Hp → Prop), WOk K d H μ → REnv K d H ρ σ → m ρ μ P →
    (∀ d' H' μ' o, Ext d H d' H' → WOk K d' H' μ' → P o μ' → Q o H') → t σ H Q
def mNoPart : PEnv → Store → (Option Int → Store → Prop) → Prop := fun _ μ P => P none μ
def mPart (m : ME) : PEnv → Store → (Option Int → Store → Prop) → Prop := fun ρ μ P => m ρ μ fun x μ1 => match x with | .int i => P (some i) μ1 | _ => False
instance : FO K tNoPart mNoPart := ⟨fun d σ H ρ μ P Q w e q k => k d H μ none .refl w q⟩
instance {t m} [h : FE K t m] : FO K (tPart t) (mPart m) := ⟨fun d σ H ρ μ P Q w e q k => by
  refine h.run d σ H ρ μ _ _ w e q fun d1 H1 μ1 x v e1 w1 r1 q1 => ?_
  cases x <;> try exact q1.elim
  cases r1
  exact ⟨_, rfl, k d1 H1 μ1 _ e1 w1 q1⟩⟩
def cutP (xs : List PV) (lo hi : Option Int) : List PV := (xs.drop (HT.sIx xs.length 0 lo)).take (HT.sIx xs.length xs.length hi - HT.sIx xs.length 0 lo)
theorem RVs.cut (r : RVs K d H xs vs) (lo hi : Option Int) : RVs K d H (cutP xs lo hi) (cutV vs lo hi) := by
  unfold cutP cutV
  rw [← r.length]
  exact (r.drop _).take _
theorem cut_whole {xs : List PV} {lo hi : Option Int} (h : HT.sIx xs.length 0 lo = 0 ∧ HT.sIx xs.length xs.length hi = xs.length) : cutP xs lo hi = xs := by
  unfold cutP
  rw [h.1, h.2]
  simp
def mSl (m : ME) (lo hi : PEnv → Store → (Option Int → Store → Prop) → Prop) : ME := fun ρ μ P => m ρ μ fun x μ1 => lo ρ μ1 fun l μ2 => hi ρ μ2 fun h μ3 => match x with | .tup xs => P (.tup (cutP xs l h)) μ3 | .lst xs => P (.lst (cutP xs l h)) μ3 | .kl xs => P (.lst (cutP xs l h)) μ3 | .mr n => (match μ3[n]? with | some (.lst xs) => P (.lst (cutP xs l h)) μ3 | _ => False) | _ => False
def rSlX (K : PySem.W.Frag) : V → Option Int → Option Int → Hp → VK → Prop := fun x lo hi H Q => rSlL K x lo hi H Q ∨ rSlA K x lo hi H Q
theorem sl_any {X : Cx} : SlR X (rSlX X.K) := SlR.or sl_list sl_tupA
instance {t m lo hi ml mh} [h : FE K t m] [hl : FO K lo ml] [hh : FO K hi mh] : FE K (tSl (rSlX K) t lo hi) (mSl m ml mh) := ⟨fun d σ H ρ μ P Q w e q k => by
  refine h.run d σ H ρ μ _ _ w e q fun d1 H1 μ1 x v e1 w1 r1 q1 => ?_
  refine hl.run d1 σ H1 ρ μ1 _ _ w1 (e.mono e1) q1 fun d2 H2 μ2 l e2 w2 q2 => ?_
  refine hh.run d2 σ H2 ρ μ2 _ _ w2 (e.mono (e1.trans e2)) q2 fun d3 H3 μ3 h e3 w3 q3 => ?_
  have E3 := (e1.trans e2).trans e3
  have r3 := r1.mono (e2.trans e3)
  cases r3 with
  | @tup xs a vs h1 h2 =>
    refine .inr ⟨a, vs, rfl, h1.sq, fun z => ?_, fun z p hp => ?_⟩
    · have q3' : P (.tup (cutP xs l h)) μ3 := q3
      rw [cut_whole (by rw [h2.length]; exact z)] at q3'
      exact k d3 H3 μ3 _ _ E3 w3 (.tup h1 h2) q3'
    · exact k d3 _ μ3 _ _ (E3.trans (Ext.lay w3 hp)) (w3.lay hp) (lay_tup w3 (h2.cut l h) hp) q3
  | @lst xs a vs h1 h2 =>
    exact .inl ⟨a, vs, rfl, h1.sq, fun p hp => k d3 _ μ3 _ _ (E3.trans (Ext.lay w3 hp)) (w3.lay hp) (lay_lst w3 (h2.cut l h) hp) q3⟩
  | @kl xs a vs h1 h2 =>
    exact .inl ⟨a, vs, rfl, h1.sq, fun p hp => k d3 _ μ3 _ _ (E3.trans (Ext.lay w3 hp)) (w3.lay hp) (lay_lst w3 (h2.cut l h) hp) q3⟩
  | @mr n a h1 =>
    simp only at q3
    cases e4 : μ3[n]? with
    | none => rw [e4] at q3; exact q3.elim
    | some m =>
      cases m with
      | dk _ => rw [e4] at q3; exact q3.elim
      | fd _ _ _ => rw [e4] at q3; exact q3.elim
      | tk _ => rw [e4] at q3; exact q3.elim
      | nk _ => rw [e4] at q3; exact q3.elim
      | ft _ _ _ => rw [e4] at q3; exact q3.elim
      | fn _ _ _ => rw [e4] at q3; exact q3.elim
      | lst zs =>
        rw [e4] at q3
        obtain ⟨vs, q, r⟩ := w3.obj h1 e4
        exact .inl ⟨a, vs, rfl, .of q, fun p hp => k d3 _ μ3 _ _ (E3.trans (Ext.lay w3 hp)) (w3.lay hp) (lay_lst w3 (r.cut l h) hp) q3⟩
  | _ => exact q3.elim⟩
def mRevL (m : ME) : ME := fun ρ μ P => m ρ μ fun x μ1 => match itemsOf x μ1 with | some xs => (match x with | .tup _ => False | _ => P (.lst xs.reverse) μ1) | none => False
def tRevLM (K : PySem.W.Frag) (te : TE) : TE := tRevL K te
def mRevLM (m : ME) : ME := fun ρ μ P => m ρ μ fun x μ1 => match itemsOf x μ1 with | some xs => (match x with | .tup _ => False | _ => P (.mr μ1.length) (μ1 ++ [.lst xs.reverse])) | none => False
theorem seqL_of {x : PV} {v : V} (w : WOk K d H μ) (r : RV K d H x v) (h : itemsOf x μ = some xs) (hx : ∀ ys, x ≠ .tup ys) : ∃ a vs, v = .ref a ∧ RVs K d H xs vs ∧ SqL K H a vs := by
  cases r with
  | tup h1 h2 => exact absurd rfl (hx _)
  | lst h1 h2 => cases h; exact ⟨_, _, rfl, h2, h1.sq⟩
  | kl h1 h2 => cases h; exact ⟨_, _, rfl, h2, h1.sq⟩
  | @mr n a h1 =>
    unfold itemsOf at h
    cases e : μ[n]? with
    | none => simp [e] at h
    | some m =>
      cases m with
      | lst zs =>
        simp [e] at h
        subst h
        obtain ⟨vs, q, r⟩ := w.obj h1 e
        exact ⟨_, _, rfl, r, .of q⟩
      | dk _ => simp [e] at h
      | fd _ _ _ => simp [e] at h
      | tk _ => simp [e] at h
      | nk _ => simp [e] at h
      | ft _ _ _ => simp [e] at h
      | fn _ _ _ => simp [e] at h
  | _ => cases h
instance {t m} [h : FE K t m] : FE K (tRevL K t) (mRevL m) := ⟨fun d σ H ρ μ P Q w e q k => by
  refine h.run d σ H ρ μ _ _ w e q fun d1 H1 μ1 x v e1 w1 r1 q1 => ?_
  cases e2 : itemsOf x μ1 with
  | none => rw [e2] at q1; exact q1.elim
  | some xs =>
    rw [e2] at q1
    simp only at q1
    have hx : ∀ ys, x ≠ .tup ys := by rintro ys rfl; exact q1
    obtain ⟨a, vs, rfl, rv, hq⟩ := seqL_of w1 r1 e2 hx
    refine ⟨a, vs, rfl, hq, fun p hp => ?_⟩
    refine k d1 _ μ1 _ _ (e1.trans (Ext.lay w1 hp)) (w1.lay hp) (lay_lst w1 rv.rev hp) ?_
    cases x <;> first | exact q1.elim | exact q1⟩
instance {t m} [h : FE K t m] : FE K (tRevLM K t) (mRevLM m) := ⟨fun d σ H ρ μ P Q w e q k => by
  refine h.run d σ H ρ μ _ _ w e q fun d1 H1 μ1 x v e1 w1 r1 q1 => ?_
  cases e2 : itemsOf x μ1 with
  | none => rw [e2] at q1; exact q1.elim
  | some xs =>
    rw [e2] at q1
    simp only at q1
    have hx : ∀ ys, x ≠ .tup ys := by rintro ys rfl; exact q1
    obtain ⟨a, vs, rfl, rv, hq⟩ := seqL_of w1 r1 e2 hx
    refine ⟨a, vs, rfl, hq, fun p hp => ?_⟩
    have ee := Ext.push (o := .lst vs.reverse) w1 hp
    refine k (d1.push p) _ _ _ _ (e1.trans ee) (w1.push (m := .lst xs.reverse) hp ⟨_, upd_same, rv.rev.mono ee⟩) (lay_mr w1) ?_
    cases x <;> first | exact q1.elim | exact q1⟩
end
end Fx
namespace Fx
open PySem PySem.Spec PyProof.Rows L2 RZ
section
variable {K : PySem.W.Frag} {d d' : Wd} {H H' : Hp} {a b : Addr} {vs us : List V} {xs ys : List PV} {μ : Store}
def mCB (p : MB) (t : MA) : ME := fun ρ μ P => t ρ μ fun xs μ1 => p xs μ1 P
instance {r p t m} [h : FB K r p] [ht : FA K t m] : FE K (tCB r t) (mCB p m) := ⟨fun d σ H ρ μ P Q w e q k => by
  refine ht.run d σ H ρ μ _ _ w e q fun d1 H1 μ1 xs vs e1 w1 r1 q1 => ?_
  exact h.run d1 H1 μ1 xs vs P Q w1 r1 q1 fun d2 H2 μ2 z w' e2 => k d2 H2 μ2 z w' (e1.trans e2)⟩
def pAbs : MB := fun xs μ P => match xs with | [.int i] => P (.int (if i < 0 then -i else i)) μ | _ => False
def rMax2 : List V → Hp → VK → Prop := fun xs H Q => ∃ i j, xs = [.int i, .int j] ∧ Q (.int (if j > i then j else i)) H
theorem cb_max2 {X : Cx} (hc : X.calm = true) : CallR X (.builtin "max") rMax2 := call_max2 hc
def rMin2 : List V → Hp → VK → Prop := fun xs H Q => ∃ i j, xs = [.int i, .int j] ∧ Q (.int (if j < i then j else i)) H
theorem cb_min2 {X : Cx} (hc : X.calm = true) : CallR X (.builtin "min") rMin2 := call_min2 hc
def pMax2 : MB := fun xs μ P => match xs with | [.int i, .int j] => P (.int (if j > i then j else i)) μ | _ => False
def pMin2 : MB := fun xs μ P => match xs with | [.int i, .int j] => P (.int (if j < i then j else i)) μ | _ => False
instance : FB K rMax2 pMax2 := ⟨fun d H μ xs vs P Q w r q k => by
  match xs, r, q with
  | [.int i, .int j], .cons (.int _) (.cons (.int _) .nil), q => exact ⟨i, j, rfl, k d H μ _ _ .refl w (.int _) q⟩⟩
instance : FB K rMin2 pMin2 := ⟨fun d H μ xs vs P Q w r q k => by
  match xs, r, q with
  | [.int i, .int j], .cons (.int _) (.cons (.int _) .nil), q => exact ⟨i, j, rfl, k d H μ _ _ .refl w (.int _) q⟩⟩
def rInt1 : List V → Hp → VK → Prop := fun xs H Q => (∃ i, xs = [.int i] ∧ Q (.int i) H) ∨ ∃ k, xs = [.bl k] ∧ Q (.int (if k then 1 else 0)) H
theorem cb_int1 {X : Cx} : CallR X (.type "int") rInt1 := call_int1
def pInt1 : MB := fun xs μ P => match xs with | [.int i] => P (.int i) μ | [.bl k] => P (.int (if k then 1 else 0)) μ | _ => False
instance : FB K rInt1 pInt1 := ⟨fun d H μ xs vs P Q w r q k => by
  match xs, r, q with
  | [.int i], .cons (.int _) .nil, q => exact .inl ⟨i, rfl, k d H μ _ _ .refl w (.int _) q⟩
  | [.bl b], .cons (.bl _) .nil, q => exact .inr ⟨b, rfl, k d H μ _ _ .refl w (.int _) q⟩⟩
def pGcd : MB := fun xs μ P => match xs with | [.int a, .int b] => P (.int ((Nat.gcd a.natAbs b.natAbs : Nat) : Int)) μ | _ => False
instance : FB K rGcd pGcd := ⟨fun d H μ xs vs P Q w r q k => by
  match xs, r, q with
  | [.int i, .int j], .cons (.int _) (.cons (.int _) .nil), q => exact ⟨i, j, rfl, k d H μ _ _ .refl w (.int _) q⟩⟩
def rLen (K : PySem.W.Frag) : List V → Hp → VK → Prop := fun xs H Q => ∃ x n, xs = [x] ∧ LenV K x H n ∧ Q (.int n) H
theorem cb_len {X : Cx} : CallR X (.builtin "len") (rLen X.K) := call_len
def pLen : MB := fun xs μ P => match xs with | [x] => (match itemsOf x μ with | some ys => P (.int (ys.length : Nat)) μ | none => False) | _ => False
instance : FB K (rLen K) pLen := ⟨fun d H μ xs vs P Q w r q k => by
  match xs, r, q with
  | [x], .cons r .nil, q =>
    unfold pLen at q
    simp only at q
    cases e : itemsOf x μ with
    | none => rw [e] at q; exact q.elim
    | some ys =>
      rw [e] at q
      obtain ⟨a, vs, rfl, rv, hq⟩ := seq_of w r e
      refine ⟨_, ys.length, rfl, ?_, k d H μ _ _ .refl w (.int _) q⟩
      rw [rv.length]
      exact hq.imp (fun h => ⟨vs, h, rfl⟩) (fun h => ⟨vs, h, rfl⟩)⟩
theorem RVs.ints_of : ∀ {xs : List PV} {vs : List V}, RVs K d H xs vs → ∀ {ns : List Int}, xs = ns.map PV.int → vs = ns.map V.int := fun r ns e => by
  subst e; exact RVs.ints r
def intsP : List PV → Option (List Int)
  | [] => some []
  | .int i :: xs => (intsP xs).map (i :: ·)
  | _ => none
theorem intsP_of : ∀ {xs : List PV} {ns : List Int}, intsP xs = some ns → xs = ns.map PV.int
  | [], ns, h => by cases h; rfl
  | x :: xs, ns, h => by
    cases x <;> simp [intsP] at h
    obtain ⟨ms, e, rfl⟩ := h
    rw [intsP_of e]; rfl
theorem intsP_map : ∀ (ns : List Int), intsP (ns.map PV.int) = some ns
  | [] => rfl
  | n :: ns => by simp [intsP, intsP_map ns]
def pSum : MB := fun xs μ P => match xs with | [x] => (match x with | .tup _ => False | _ => match itemsOf x μ with | some ys => (match intsP ys with | some ns => P (.int ns.sum) μ | none => False) | none => False) | _ => False
instance : FB K (rSum K) pSum := ⟨fun d H μ xs vs P Q w r q k => by
  match xs, r, q with
  | [x], .cons r .nil, q =>
    have hx : ∀ ys, x ≠ .tup ys := by rintro ys rfl; exact q
    cases e : itemsOf x μ with
    | none => cases x <;> simp [pSum, e] at q
    | some ys =>
      have q' : (match intsP ys with | some ns => P (.int ns.sum) μ | none => False) := by
        cases x <;> first | exact q.elim | (simp only [pSum, e] at q; exact q)
      obtain ⟨a, vs, rfl, rv, hq⟩ := seqL_of w r e hx
      cases e2 : intsP ys with
      | none => rw [e2] at q'; exact q'.elim
      | some ns =>
        rw [e2] at q'
        have ev := RVs.ints_of rv (intsP_of e2)
        subst ev
        exact ⟨a, ns, rfl, hq, k d H μ _ _ .refl w (.int _) q'⟩⟩
def maxP : List Int → Int
  | [] => 0
  | n :: ns => ns.foldl (fun a y => if a < y then y else a) n
def pMaxS : MB := fun xs μ P => match xs with | [x] => (match itemsOf x μ with | some ys => (match intsP ys with | some ns => ns ≠ [] ∧ P (.int (maxP ns)) μ | none => False) | none => False) | _ => False
def boolsP : List PV → Option (List Bool)
  | [] => some []
  | .bl i :: xs => (boolsP xs).map (i :: ·)
  | _ => none
theorem boolsP_of : ∀ {xs : List PV} {ns : List Bool}, boolsP xs = some ns → xs = ns.map PV.bl
  | [], ns, h => by cases h; rfl
  | x :: xs, ns, h => by
    cases x <;> simp [boolsP] at h
    obtain ⟨ms, e, rfl⟩ := h
    rw [boolsP_of e]; rfl
theorem boolsP_map : ∀ (ns : List Bool), boolsP (ns.map PV.bl) = some ns
  | [] => rfl
  | n :: ns => by simp [boolsP, boolsP_map ns]
def pAll : MB := fun xs μ P => match xs with | [.lst ys] => (match boolsP ys with | some bs => P (.bl (bs.all id)) μ | none => False) | _ => False
def pAny : MB := fun xs μ P => match xs with | [.lst ys] => (match boolsP ys with | some bs => P (.bl (bs.any id)) μ | none => False) | _ => False
instance : FB K (rAll K) pAll := ⟨fun d H μ xs vs P Q w r q k => by
  match xs, r, q with
  | [.lst ys], .cons (.lst (a := a) h1 h2) .nil, q =>
    unfold pAll at q
    simp only at q
    cases e2 : boolsP ys with
    | none => rw [e2] at q; exact q.elim
    | some ns =>
      rw [e2] at q
      have ev := boolsP_of e2
      subst ev
      have ev := RVs.bools h2
      subst ev
      exact ⟨a, ns, rfl, h1.sq, k d H μ _ _ .refl w (.bl _) q⟩⟩
instance : FB K (rAny K) pAny := ⟨fun d H μ xs vs P Q w r q k => by
  match xs, r, q with
  | [.lst ys], .cons (.lst (a := a) h1 h2) .nil, q =>
    unfold pAny at q
    simp only at q
    cases e2 : boolsP ys with
    | none => rw [e2] at q; exact q.elim
    | some ns =>
      rw [e2] at q
      have ev := boolsP_of e2
      subst ev
      have ev := RVs.bools h2
      subst ev
      exact ⟨a, ns, rfl, h1.sq, k d H μ _ _ .refl w (.bl _) q⟩⟩
def rTupOf (K : PySem.W.Frag) : List V → Hp → VK → Prop := fun xs H Q => ∃ p ys, xs = [.ref p] ∧ ((SqL K H p ys ∧ ∀ l, H l = none → Q (.ref l) (upd H l (.tup ys))) ∨ (SqT K H p ys ∧ Q (.ref p) H))
theorem cb_tup {X : Cx} : CallR X (.type "tuple") (rTupOf X.K) := call_tuple_of
def pTupOf : MB := fun xs μ P => match xs with | [x] => (match itemsOf x μ with | some ys => P (.tup ys) μ | none => False) | _ => False
instance : FB K (rTupOf K) pTupOf := ⟨fun d H μ xs vs P Q w r q k => by
  match xs, r, q with
  | [x], .cons r .nil, q =>
    unfold pTupOf at q
    simp only at q
    cases e : itemsOf x μ with
    | none => rw [e] at q; exact q.elim
    | some ys =>
      rw [e] at q
      simp only at q
      match x, r, e with
      | .tup zs, r, e =>
        cases e
        cases r with
        | tup h1 h2 => exact ⟨_, _, rfl, .inr ⟨h1.sq, k d H μ _ _ .refl w (.tup h1 h2) q⟩⟩
      | .lst zs, r, e =>
        obtain ⟨a, vs, rfl, rv, hq⟩ := seqL_of w r e (by rintro _ ⟨⟩)
        exact ⟨a, vs, rfl, .inl ⟨hq, fun p hp => k d _ μ _ _ (Ext.lay w hp) (w.lay hp) (lay_tup w rv hp) q⟩⟩
      | .kl zs, r, e =>
        obtain ⟨a, vs, rfl, rv, hq⟩ := seqL_of w r e (by rintro _ ⟨⟩)
        exact ⟨a, vs, rfl, .inl ⟨hq, fun p hp => k d _ μ _ _ (Ext.lay w hp) (w.lay hp) (lay_tup w rv hp) q⟩⟩
      | .mr n, r, e =>
        obtain ⟨a, vs, rfl, rv, hq⟩ := seqL_of w r e (by rintro _ ⟨⟩)
        exact ⟨a, vs, rfl, .inl ⟨hq, fun p hp => k d _ μ _ _ (Ext.lay w hp) (w.lay hp) (lay_tup w rv hp) q⟩⟩⟩
def rLstOf (K : PySem.W.Frag) : List V → Hp → VK → Prop := fun xs H Q => ∃ p ys, xs = [.ref p] ∧ (SqL K H p ys ∨ SqT K H p ys) ∧ ∀ l, H l = none → Q (.ref l) (upd H l (.lst ys))
theorem cb_lst {X : Cx} : CallR X (.type "list") (rLstOf X.K) := call_list_of
def pLstOf : MB := fun xs μ P => match xs with | [x] => (match itemsOf x μ with | some ys => P (.lst ys) μ | none => False) | _ => False
def pLstOfM : MB := fun xs μ P => match xs with | [x] => (match itemsOf x μ with | some ys => P (.mr μ.length) (μ ++ [.lst ys]) | none => False) | _ => False
instance : FB K (rLstOf K) pLstOf := ⟨fun d H μ xs vs P Q w r q k => by
  match xs, r, q with
  | [x], .cons r .nil, q =>
    unfold pLstOf at q
    simp only at q
    cases e : itemsOf x μ with
    | none => rw [e] at q; exact q.elim
    | some ys =>
      rw [e] at q
      obtain ⟨a, vs, rfl, rv, hq⟩ := seq_of w r e
      exact ⟨a, vs, rfl, hq, fun p hp => k d _ μ _ _ (Ext.lay w hp) (w.lay hp) (lay_lst w rv hp) q⟩⟩
class FR (K : PySem.W.Frag) (t : L2.St → Hp → (Int → Int → Hp → Prop) → Prop) (m : outParam (PEnv → Store → (Int → Int → Store → Prop) → Prop)) : Prop where
  run : ∀ (d : Wd) (σ : L2.St) (H : Hp) (ρ : PEnv) (μ : Store) (P : Int → Int → Store → Prop) (Q : Int → Int → Hp → Prop), WOk K d H μ → REnv K d H ρ σ → m ρ μ P →
    (∀ d' H' μ' i j, Ext d H d' H' → WOk K d' H' μ' → P i j μ' → Q i j H') → t σ H Q
def mRg1 (a : ME) : PEnv → Store → (Int → Int → Store → Prop) → Prop := fun ρ μ P => a ρ μ fun x μ1 => match x with | .int n => P 0 n μ1 | _ => False
def mRg2 (a b : ME) : PEnv → Store → (Int → Int → Store → Prop) → Prop := fun ρ μ P => a ρ μ fun x μ1 => b ρ μ1 fun y μ2 => match x, y with | .int i, .int j => P i j μ2 | _, _ => False
instance {a m} [h : FE K a m] : FR K (tRg1 a) (mRg1 m) := ⟨fun d σ H ρ μ P Q w e q k => by
  refine h.run d σ H ρ μ _ _ w e q fun d1 H1 μ1 x v e1 w1 r1 q1 => ?_
  cases x <;> try exact q1.elim
  cases r1
  exact ⟨_, rfl, k d1 H1 μ1 _ _ e1 w1 q1⟩⟩
instance {a b m n} [h : FE K a m] [h' : FE K b n] : FR K (tRg2 a b) (mRg2 m n) := ⟨fun d σ H ρ μ P Q w e q k => by
  refine h.run d σ H ρ μ _ _ w e q fun d1 H1 μ1 x v e1 w1 r1 q1 => ?_
  refine h'.run d1 σ H1 ρ μ1 _ _ w1 (e.mono e1) q1 fun d2 H2 μ2 y u e2 w2 r2 q2 => ?_
  cases x <;> try exact q2.elim
  cases y <;> try exact q2.elim
  cases r1; cases r2
  exact ⟨_, _, rfl, rfl, k d2 H2 μ2 _ _ (e1.trans e2) w2 q2⟩⟩
def mTupRg (m : PEnv → Store → (Int → Int → Store → Prop) → Prop) : ME := fun ρ μ P => m ρ μ fun i j μ1 => (-1000000 ≤ i ∧ i ≤ 1000000 ∧ -1000000 ≤ j ∧ j ≤ 1000000) ∧ P (.tup (rangeP i (j - i).toNat)) μ1
theorem rvs_rg (i j : Int) : RVs K d H (rangeP i (j - i).toNat) (rgV i j) := by
  unfold rangeP rgV
  generalize List.range (j - i).toNat = l
  induction l with
  | nil => exact .nil
  | cons x l ih => exact .cons (.int _) ih
instance {t m} [h : FR K t m] : FE K (tTupRg t) (mTupRg m) := ⟨fun d σ H ρ μ P Q w e q k => by
  refine h.run d σ H ρ μ _ _ w e q fun d1 H1 μ1 i j e1 w1 ⟨z, q1⟩ => ⟨⟨by omega, by omega, by omega, by omega, by omega⟩, fun p hp => ?_⟩
  exact k d1 _ μ1 _ _ (e1.trans (Ext.lay w1 hp)) (w1.lay hp) (lay_tup w1 (rvs_rg i j) hp) q1⟩
end
end Fx
namespace Fx
open PySem PySem.Spec PyProof.Rows L2 RZ
section
variable {K : PySem.W.Frag} {d d' : Wd} {H H' : Hp} {a b : Addr} {vs us : List V} {xs ys : List PV} {μ : Store}
def lstItems (x : PV) (μ : Store) : Option (List PV) := match x with
  | .lst xs => some xs
  | .mr n => match μ[n]? with | some (.lst xs) => some xs | _ => none
  | _ => none
theorem lst_of {x : PV} {v : V} (w : WOk K d H μ) (r : RV K d H x v) (h : lstItems x μ = some xs) : ∃ a vs, v = .ref a ∧ RVs K d H xs vs ∧ H a = some (.lst vs) := by
  cases r with
  | lst h1 h2 => cases h; exact ⟨_, _, rfl, h2, h1.1⟩
  | @mr n a h1 =>
    unfold lstItems at h
    cases e : μ[n]? with
    | none => simp [e] at h
    | some m =>
      cases m with
      | lst zs =>
        simp [e] at h
        subst h
        obtain ⟨vs, q, r⟩ := w.obj h1 e
        exact ⟨_, _, rfl, r, q⟩
      | dk _ => simp [e] at h
      | fd _ _ _ => simp [e] at h
      | tk _ => simp [e] at h
      | nk _ => simp [e] at h
      | ft _ _ _ => simp [e] at h
      | fn _ _ _ => simp [e] at h
  | _ => cases h
def rPlus (K : PySem.W.Frag) : R2 := fun x y H Q => rI0 (fun i j => .int (i + j)) x y H Q ∨ rCatA K x y H Q ∨ rCat x y H Q
theorem op_plus {X : Cx} : OpR X (binaryOp .Add) (rPlus X.K) := OpR.or op_add (OpR.or op_catA op_cat)
def pPlus : MO2 := fun x y μ P => match x, y with
  | .int i, .int j => P (.int (i + j)) μ
  | .tup xs, .tup ys => xs.length + ys.length ≤ lim ∧ P (.tup (xs ++ ys)) μ
  | _, _ => match lstItems x μ, lstItems y μ with | some xs, some ys => xs.length + ys.length ≤ lim ∧ P (.lst (xs ++ ys)) μ | _, _ => False
def rPlusM (K : PySem.W.Frag) : R2 := rPlus K
theorem op_plusM {X : Cx} : OpR X (binaryOp .Add) (rPlusM X.K) := op_plus
def pPlusM : MO2 := fun x y μ P => match lstItems x μ, lstItems y μ with | some xs, some ys => xs.length + ys.length ≤ lim ∧ P (.mr μ.length) (μ ++ [.lst (xs ++ ys)]) | _, _ => False
theorem cat_run {x y : PV} {v u : V} {P : PV → Store → Prop} {Q : VK} (w : WOk K d H μ) (r1 : RV K d H x v) (r2 : RV K d H y u) (q : match lstItems x μ, lstItems y μ with | some xs, some ys => xs.length + ys.length ≤ lim ∧ P (.lst (xs ++ ys)) μ | _, _ => False)
    (k : ∀ d' H' μ' z w', Ext d H d' H' → WOk K d' H' μ' → RV K d' H' z w' → P z μ' → Q w' H') : rCat v u H Q := by
  cases e1 : lstItems x μ with
  | none => rw [e1] at q; exact q.elim
  | some xs =>
    cases e2 : lstItems y μ with
    | none => rw [e1, e2] at q; exact q.elim
    | some ys =>
      rw [e1, e2] at q
      obtain ⟨a, vs, rfl, rv, h1⟩ := lst_of w r1 e1
      obtain ⟨b, us, rfl, ru, h2⟩ := lst_of w r2 e2
      exact ⟨a, b, vs, us, rfl, rfl, h1, h2, by rw [← rv.length, ← ru.length]; exact lim_lt q.1, fun p hp => k d _ μ _ _ (Ext.lay w hp) (w.lay hp) (lay_lst w (rv.append ru) hp) q.2⟩
instance : F2 K (rPlus K) pPlus := ⟨fun d H μ x y v u P Q w r1 r2 q k => by
  match x, y, r1, r2, q with
  | .int i, .int j, .int _, .int _, q => exact .inl ⟨i, j, rfl, rfl, k d H μ _ _ .refl w (.int _) q⟩
  | .tup xs, .tup ys, .tup (a := a) (vs := vs) h1 h2, .tup (a := b) (vs := us) h3 h4, ⟨z, q⟩ =>
    refine .inr (.inl ⟨a, b, vs, us, rfl, rfl, h1.sq, h3.sq, by rw [← h2.length, ← h4.length]; exact lim_lt z, fun e => ?_, fun e1 e2 => ?_, fun e1 e2 p hp => ?_⟩)
    · subst e
      cases h2
      exact k d H μ _ _ .refl w (.tup h3 h4) (by simpa using q)
    · subst e2
      cases h4
      exact k d H μ _ _ .refl w (.tup h1 h2) (by simpa using q)
    · exact k d _ μ _ _ (Ext.lay w hp) (w.lay hp) (lay_tup w (h2.append h4) hp) q
  | .lst xs, y, r1, r2, q => exact .inr (.inr (cat_run w r1 r2 (by cases y <;> exact q) k))
  | .mr xs, y, r1, r2, q => exact .inr (.inr (cat_run w r1 r2 (by cases y <;> exact q) k))⟩
instance : F2 K (rPlusM K) pPlusM := ⟨fun d H μ x y v u P Q w r1 r2 q k => by
  unfold pPlusM at q
  refine .inr (.inr ?_)
  cases e1 : lstItems x μ with
  | none => rw [e1] at q; exact q.elim
  | some xs =>
    cases e2 : lstItems y μ with
    | none => rw [e1, e2] at q; exact q.elim
    | some ys =>
      rw [e1, e2] at q
      obtain ⟨a, vs, rfl, rv, h1⟩ := lst_of w r1 e1
      obtain ⟨b, us, rfl, ru, h2⟩ := lst_of w r2 e2
      refine ⟨a, b, vs, us, rfl, rfl, h1, h2, by rw [← rv.length, ← ru.length]; exact lim_lt q.1, fun p hp => ?_⟩
      have ee := Ext.push (o := .lst (vs ++ us)) w hp
      exact k (d.push p) _ _ _ _ ee (w.push (m := .lst (xs ++ ys)) hp ⟨_, upd_same, (rv.append ru).mono ee⟩) (lay_mr w) q.2⟩
def CMulX (i j : Int) : Prop := i.natAbs.log2 + j.natAbs.log2 < 100000000
theorem CMulX.ok {i j : Int} (h : CMulX i j) : IntMulOk i j := by
  have b : ∀ x : Int, Builtin.Int.intBits x ≤ x.natAbs.log2 + 1 := fun x => by
    unfold Builtin.Int.intBits
    split <;> omega
  have h1 := b i
  have h2 := b j
  have h3 : i.natAbs.log2 + j.natAbs.log2 < 100000000 := h
  have e : bitsLine = 134217728 := by decide
  unfold IntMulOk
  intro z
  rw [Bool.and_eq_true] at z
  have z2 := z.2
  unfold Builtin.Int.intTooBig at z2
  have z3 := of_decide_eq_true z2
  rw [e] at z3
  omega
theorem op_mulXX {X : Cx} : OpR X (binaryOp .Mult) (rI CMulX fun i j => .int (i * j)) := opI fun _ _ _ _ _ _ _ hc q => mul_int q hc.ok
def MulOk (i j : Int) : Prop := CMul i j ∨ CMulX i j
theorem op_mulX {X : Cx} : OpR X (binaryOp .Mult) (rI MulOk fun i j => .int (i * j)) := by
  intro pins s σ H x y v u Q I rx ry h
  obtain ⟨i, j, e1, e2, c, q⟩ := h
  rcases c with c | c
  · exact op_mul pins s σ H x y v u Q I rx ry ⟨i, j, e1, e2, c, q⟩
  · exact op_mulXX pins s σ H x y v u Q I rx ry ⟨i, j, e1, e2, c, q⟩
def DivOk (i j : Int) : Prop := (0 < j ∧ j.natAbs.log2 < 9000) ∨ (j < 0 ∧ j.natAbs < 1073741824)
theorem op_divX {X : Cx} : OpR X (binaryOp .FloorDiv) (rI DivOk fun i j => .int (i.fdiv j)) := by
  intro pins s σ H x y v u Q I rx ry h
  obtain ⟨i, j, e1, e2, c, q⟩ := h
  rcases c with c | c
  · have q : Q (.int (i.fdiv j)) H := q
    rw [Int.fdiv_eq_ediv_of_nonneg i (by omega : 0 ≤ j)] at q
    exact op_fdivW pins s σ H x y v u Q I rx ry ⟨i, j, e1, e2, c, q⟩
  · exact op_fdivN pins s σ H x y v u Q I rx ry ⟨i, j, e1, e2, ⟨by omega, c.2⟩, q⟩
def mBM (p : PV → List PV → Store → (PV → Store → Prop) → Prop) (mo : ME) (ma : MA) : ME := fun ρ μ P => mo ρ μ fun x μ1 => match x with | .mr n => (match μ1[n]? with | some (.lst _) => ma ρ μ1 fun xs μ2 => p (.mr n) xs μ2 P | _ => False) | _ => False
instance {r p to mo t ma} [h : FM K r p] [ho : FE K to mo] [ha : FA K t ma] : FE K (tBM K "list" r to t) (mBM p mo ma) := ⟨fun d σ H ρ μ P Q w e q k => by
  refine ho.run d σ H ρ μ _ _ w e q fun d1 H1 μ1 x v e1 w1 r1 q1 => ?_
  cases r1 with
  | @mr n a h1 =>
    simp only at q1
    cases e2 : μ1[n]? with
    | none => rw [e2] at q1; exact q1.elim
    | some m =>
      cases m with
      | dk _ => rw [e2] at q1; exact q1.elim
      | fd _ _ _ => rw [e2] at q1; exact q1.elim
      | tk _ => rw [e2] at q1; exact q1.elim
      | nk _ => rw [e2] at q1; exact q1.elim
      | ft _ _ _ => rw [e2] at q1; exact q1.elim
      | fn _ _ _ => rw [e2] at q1; exact q1.elim
      | lst ys =>
        rw [e2] at q1
        obtain ⟨vs, q, _⟩ := w1.obj h1 e2
        refine ⟨.inl ⟨rfl, vs, .of q⟩, ?_⟩
        refine ha.run d1 σ H1 ρ μ1 _ _ w1 (e.mono e1) q1 fun d3 H3 μ3 xs us e3 w3 r3 q3 => ?_
        exact h.run d3 H3 μ3 (.mr n) (.ref a) xs us P Q w3 (.mr (e3.at h1)) r3 q3 fun d4 H4 μ4 z w' e4 => k d4 H4 μ4 z w' ((e1.trans e3).trans e4)
  | _ => exact q1.elim⟩
def mBM0 (p : PV → List PV → Store → (PV → Store → Prop) → Prop) (mo : ME) : ME := fun ρ μ P => mo ρ μ fun x μ1 => match x with | .mr n => (match μ1[n]? with | some (.lst _) => p (.mr n) [] μ1 P | _ => False) | _ => False
instance {r p to mo} [h : FM K r p] [ho : FE K to mo] : FE K (tBM0 K "list" r to) (mBM0 p mo) := ⟨fun d σ H ρ μ P Q w e q k => by
  refine ho.run d σ H ρ μ _ _ w e q fun d1 H1 μ1 x v e1 w1 r1 q1 => ?_
  cases r1 with
  | @mr n a h1 =>
    simp only at q1
    cases e2 : μ1[n]? with
    | none => rw [e2] at q1; exact q1.elim
    | some m =>
      cases m with
      | dk _ => rw [e2] at q1; exact q1.elim
      | fd _ _ _ => rw [e2] at q1; exact q1.elim
      | tk _ => rw [e2] at q1; exact q1.elim
      | nk _ => rw [e2] at q1; exact q1.elim
      | ft _ _ _ => rw [e2] at q1; exact q1.elim
      | fn _ _ _ => rw [e2] at q1; exact q1.elim
      | lst ys =>
        rw [e2] at q1
        obtain ⟨vs, q, _⟩ := w1.obj h1 e2
        refine ⟨.inl ⟨rfl, vs, .of q⟩, ?_⟩
        exact h.run d1 H1 μ1 (.mr n) (.ref a) [] [] P Q w1 (.mr h1) .nil q1 fun d4 H4 μ4 z w' e4 => k d4 H4 μ4 z w' (e1.trans e4)
  | _ => exact q1.elim⟩
def pAppend : PV → List PV → Store → (PV → Store → Prop) → Prop := fun x zs μ P => match x, zs with | .mr n, [y] => (match μ[n]? with | some (.lst xs) => xs.length ≤ lim ∧ P .non (μ.set n (.lst (xs ++ [y]))) | _ => False) | _, _ => False
theorem chg_list {n : Nat} {zs : List PV} {ws vs : List V} (w : WOk K d H μ) (h : d.am[n]? = some a) (r : RVs K d H zs ws) : Ext d H d (upd H a (.lst ws)) ∧ WOk K d (upd H a (.lst ws)) (μ.set n (.lst zs)) := by
  have ha : a ∈ d.am := List.mem_of_getElem? h
  have e : Ext d H d (upd H a (.lst ws)) := Ext.chg ha
  exact ⟨e, w.chg h ⟨ws, upd_same, r.mono e⟩⟩
instance : FM K rAppend pAppend := ⟨fun d H μ x v zs us P Q w r rs q k => by
  match x, zs, r, rs, q with
  | .mr n, [y], .mr (a := a) h1, .cons (v := u) ry .nil, q =>
    simp only [pAppend] at q
    cases e : μ[n]? with
    | none => rw [e] at q; exact q.elim
    | some m =>
      cases m with
      | dk _ => rw [e] at q; exact q.elim
      | fd _ _ _ => rw [e] at q; exact q.elim
      | tk _ => rw [e] at q; exact q.elim
      | nk _ => rw [e] at q; exact q.elim
      | ft _ _ _ => rw [e] at q; exact q.elim
      | fn _ _ _ => rw [e] at q; exact q.elim
      | lst xs =>
        rw [e] at q
        obtain ⟨vs, hq, rv⟩ := w.obj h1 e
        obtain ⟨e1, w1⟩ := chg_list (vs := vs) w h1 (rv.append (.cons ry .nil))
        exact ⟨a, vs, u, rfl, rfl, hq, by rw [← rv.length]; exact lim_lt' q.1, k d _ _ _ _ e1 w1 .non q.2⟩⟩
def pExtend : PV → List PV → Store → (PV → Store → Prop) → Prop := fun x zs μ P => match x, zs with | .mr n, [y] => (match μ[n]?, lstItems y μ with | some (.lst xs), some ys => xs.length + ys.length ≤ lim ∧ P .non (μ.set n (.lst (xs ++ ys))) | _, _ => False) | _, _ => False
instance : FM K rExtend pExtend := ⟨fun d H μ x v zs us P Q w r rs q k => by
  match x, zs, r, rs, q with
  | .mr n, [y], .mr (a := a) h1, .cons (v := u) ry .nil, q =>
    simp only [pExtend] at q
    cases e : μ[n]? with
    | none => rw [e] at q; exact q.elim
    | some m =>
      cases m with
      | dk _ => rw [e] at q; exact q.elim
      | fd _ _ _ => rw [e] at q; exact q.elim
      | tk _ => rw [e] at q; exact q.elim
      | nk _ => rw [e] at q; exact q.elim
      | ft _ _ _ => rw [e] at q; exact q.elim
      | fn _ _ _ => rw [e] at q; exact q.elim
      | lst xs =>
        rw [e] at q
        cases e2 : lstItems y μ with
        | none => rw [e2] at q; exact q.elim
        | some ys =>
          rw [e2] at q
          obtain ⟨vs, hq, rv⟩ := w.obj h1 e
          obtain ⟨b, ws, rfl, rw', hb⟩ := lst_of w ry e2
          obtain ⟨e1, w1⟩ := chg_list (vs := vs) w h1 (rv.append rw')
          exact ⟨a, b, vs, ws, rfl, rfl, hq, hb, by rw [← rv.length, ← rw'.length]; exact lim_lt q.1, k d _ _ _ _ e1 w1 .non q.2⟩⟩
theorem RVs.dropLast (r : RVs K d H xs vs) : RVs K d H xs.dropLast vs.dropLast := by
  rw [List.dropLast_eq_take, List.dropLast_eq_take, r.length]
  exact r.take _
def pPop : PV → List PV → Store → (PV → Store → Prop) → Prop := fun x zs μ P => match x, zs with | .mr n, [] => (match μ[n]? with | some (.lst xs) => (match xs[xs.length - 1]? with | some y => P y (μ.set n (.lst xs.dropLast)) | none => False) | _ => False) | _, _ => False
instance : FM K rPop pPop := ⟨fun d H μ x v zs us P Q w r rs q k => by
  match x, zs, r, rs, q with
  | .mr n, [], .mr (a := a) h1, .nil, q =>
    simp only [pPop] at q
    cases e : μ[n]? with
    | none => rw [e] at q; exact q.elim
    | some m =>
      cases m with
      | dk _ => rw [e] at q; exact q.elim
      | fd _ _ _ => rw [e] at q; exact q.elim
      | tk _ => rw [e] at q; exact q.elim
      | nk _ => rw [e] at q; exact q.elim
      | ft _ _ _ => rw [e] at q; exact q.elim
      | fn _ _ _ => rw [e] at q; exact q.elim
      | lst xs =>
        rw [e] at q
        simp only at q
        obtain ⟨vs, hq, rv⟩ := w.obj h1 e
        cases e2 : xs[xs.length - 1]? with
        | none => rw [e2] at q; exact q.elim
        | some y =>
          rw [e2] at q
          obtain ⟨u, hu, ry⟩ := rv.get e2
          obtain ⟨e1, w1⟩ := chg_list (vs := vs) w h1 rv.dropLast
          exact ⟨a, vs, u, rfl, rfl, hq, by rw [← rv.length]; exact hu, k d _ _ _ _ e1 w1 (ry.mono e1) q⟩⟩
class FSet (K : PySem.W.Frag) (r : TSet) (p : outParam (PV → PV → PV → Store → (Store → Prop) → Prop)) : Prop where
  run : ∀ (d : Wd) (H : Hp) (μ : Store) (x y z : PV) (v u t : V) (P : Store → Prop) (Q : Hp → Prop), WOk K d H μ → RV K d H x v → RV K d H y u → RV K d H z t → p x y z μ P →
    (∀ d' H' μ', Ext d H d' H' → WOk K d' H' μ' → P μ' → Q H') → r v u t H Q
def mSub (p : PV → PV → PV → Store → (Store → Prop) → Prop) (mo mi : ME) : MG := fun z ρ μ P => mo ρ μ fun x μ1 => mi ρ μ1 fun y μ2 => p x y z μ2 fun μ3 => P ρ μ3
instance {to ti t mo mi p} [h : FSet K t p] [ho : FE K to mo] [hi : FE K ti mi] : FG K (gSub to ti t) (mSub p mo mi) [] := ⟨fun d σ H ρ μ x v P Q w e r q k => by
  refine ho.run d σ H ρ μ _ _ w e q fun d1 H1 μ1 y u e1 w1 r1 q1 => ?_
  refine hi.run d1 σ H1 ρ μ1 _ _ w1 (e.mono e1) q1 fun d2 H2 μ2 z t e2 w2 r2 q2 => ?_
  exact h.run d2 H2 μ2 y z x u t v _ _ w2 (r1.mono e2) r2 (r.mono (e1.trans e2)) q2 fun d3 H3 μ3 e3 w3 q3 =>
    k d3 σ H3 ρ μ3 ((e1.trans e2).trans e3) w3 (e.mono ((e1.trans e2).trans e3)) rfl (fun _ _ => rfl) q3⟩
def pSetL : PV → PV → PV → Store → (Store → Prop) → Prop := fun x y z μ P => match x, y with | .mr n, .int i => (match μ[n]? with | some (.lst xs) => (match ixN xs.length i with | some j => P (μ.set n (.lst (xs.set j z))) | none => False) | _ => False) | _, _ => False
instance : FSet K rSetL pSetL := ⟨fun d H μ x y z v u t P Q w r1 r2 r3 q k => by
  match x, y, r1, r2, q with
  | .mr n, .int i, .mr (a := a) h1, .int _, q =>
    simp only [pSetL] at q
    cases e : μ[n]? with
    | none => rw [e] at q; exact q.elim
    | some m =>
      cases m with
      | dk _ => rw [e] at q; exact q.elim
      | fd _ _ _ => rw [e] at q; exact q.elim
      | tk _ => rw [e] at q; exact q.elim
      | nk _ => rw [e] at q; exact q.elim
      | ft _ _ _ => rw [e] at q; exact q.elim
      | fn _ _ _ => rw [e] at q; exact q.elim
      | lst xs =>
        rw [e] at q
        simp only at q
        obtain ⟨vs, hq, rv⟩ := w.obj h1 e
        cases e2 : ixN xs.length i with
        | none => rw [e2] at q; exact q.elim
        | some j =>
          rw [e2] at q
          obtain ⟨e1, w1⟩ := chg_list (vs := vs) w h1 (rv.set r3 j)
          exact ⟨a, vs, i, j, rfl, rfl, hq, by rw [← rv.length]; exact e2, k d _ _ e1 w1 q⟩⟩
def keyP : PV → Option Key
  | .int i => some (.inl i)
  | .str x => some (.inr x)
  | _ => none
theorem keyP_rv {x : PV} {v : V} {k : Key} (r : RV K d H x v) (h : keyP x = some k) : v = kV k := by
  cases r <;> simp [keyP] at h <;> subst h <;> rfl
def valP (kvs : List (Key × PV)) (k : Key) : Option PV := (kvs.find? fun kv => decide (kv.1 = k)).map (·.2)
def putP (kvs : List (Key × PV)) (k : Key) (v : PV) : List (Key × PV) :=
  if (kvs.any fun kv => decide (kv.1 = k)) = true then kvs.map (fun kv => if kv.1 = k then (kv.1, v) else kv) else kvs ++ [(k, v)]
def RKs (K : PySem.W.Frag) (d : Wd) (H : Hp) (kvs : List (Key × PV)) (ws : List (Key × V)) : Prop := ws.map (·.1) = kvs.map (·.1) ∧ RVs K d H (kvs.map (·.2)) (ws.map (·.2))
theorem RKs.nil : RKs K d H [] [] := ⟨rfl, .nil⟩
theorem RKs.cases {kvs : List (Key × PV)} {ws : List (Key × V)} (r : RKs K d H kvs ws) : (kvs = [] ∧ ws = []) ∨ ∃ k x v kvs' ws', kvs = (k, x) :: kvs' ∧ ws = (k, v) :: ws' ∧ RV K d H x v ∧ RKs K d H kvs' ws' := by
  obtain ⟨h1, h2⟩ := r
  cases kvs with
  | nil => simp at h1; exact .inl ⟨rfl, h1⟩
  | cons p kvs =>
    cases ws with
    | nil => simp at h1
    | cons q ws =>
      obtain ⟨k, x⟩ := p
      obtain ⟨k', v⟩ := q
      simp only [List.map_cons, List.cons.injEq] at h1
      obtain ⟨e, h1⟩ := h1
      subst e
      cases h2 with
      | cons r t => exact .inr ⟨_, _, _, _, _, rfl, rfl, r, h1, t⟩
theorem RKs.cons {k : Key} {x : PV} {v : V} {kvs : List (Key × PV)} {ws : List (Key × V)} (r : RV K d H x v) (t : RKs K d H kvs ws) : RKs K d H ((k, x) :: kvs) ((k, v) :: ws) :=
  ⟨by simp only [List.map_cons, t.1], .cons r t.2⟩
theorem RKs.val {k : Key} : ∀ {kvs : List (Key × PV)} {ws : List (Key × V)}, RKs K d H kvs ws → (valP kvs k = none ∧ valV ws k = none) ∨ ∃ x v, valP kvs k = some x ∧ valV ws k = some v ∧ RV K d H x v
  | [], ws, r => by
    rcases r.cases with ⟨_, e⟩ | ⟨_, _, _, _, _, e, _⟩
    · subst e; exact .inl ⟨rfl, rfl⟩
    · cases e
  | p :: kvs, ws, r => by
    rcases r.cases with ⟨e, _⟩ | ⟨k', x, v, kvs', ws', e1, e2, r1, t⟩
    · cases e
    · cases e1; subst e2
      by_cases h : k' = k
      · subst h
        exact .inr ⟨x, v, by simp [valP], by simp [valV], r1⟩
      · have := RKs.val (k := k) t
        have a1 : valP ((k', x) :: kvs) k = valP kvs k := by simp [valP, List.find?_cons, h]
        have a2 : valV ((k', v) :: ws') k = valV ws' k := by simp [valV, List.find?_cons, h]
        rw [a1, a2]; exact this
theorem RKs.len {kvs : List (Key × PV)} {ws : List (Key × V)} (r : RKs K d H kvs ws) : kvs.length = ws.length := by
  have := congrArg List.length r.1
  simpa using this.symm
theorem RKs.append : ∀ {kvs kvs' : List (Key × PV)} {ws ws' : List (Key × V)}, RKs K d H kvs ws → RKs K d H kvs' ws' → RKs K d H (kvs ++ kvs') (ws ++ ws') := fun r t => by
  refine ⟨by rw [List.map_append, List.map_append, r.1, t.1], ?_⟩
  rw [List.map_append, List.map_append]
  exact r.2.append t.2
theorem RKs.any {k : Key} {kvs : List (Key × PV)} {ws : List (Key × V)} (r : RKs K d H kvs ws) : (ws.any fun kv => decide (kv.1 = k)) = kvs.any fun kv => decide (kv.1 = k) := by
  have e1 : ∀ l : List (Key × V), (l.any fun kv => decide (kv.1 = k)) = (l.map (·.1)).any fun z => decide (z = k) := fun l => by rw [List.any_map]; rfl
  have e2 : ∀ l : List (Key × PV), (l.any fun kv => decide (kv.1 = k)) = (l.map (·.1)).any fun z => decide (z = k) := fun l => by rw [List.any_map]; rfl
  rw [e1, e2, r.1]
theorem RKs.upd1 {k : Key} {x : PV} {v : V} (rx : RV K d H x v) : ∀ {kvs : List (Key × PV)} {ws : List (Key × V)}, RKs K d H kvs ws → RKs K d H (kvs.map (fun kv => if kv.1 = k then (kv.1, x) else kv)) (ws.map (fun kv => if kv.1 = k then (kv.1, v) else kv))
  | [], ws, r => by
    rcases r.cases with ⟨_, e⟩ | ⟨_, _, _, _, _, e, _⟩
    · subst e; exact .nil
    · cases e
  | p :: kvs, ws, r => by
    rcases r.cases with ⟨e, _⟩ | ⟨k', x', v', kvs', ws', e1, e2, r1, t⟩
    · cases e
    · cases e1; subst e2
      rw [List.map_cons, List.map_cons]
      by_cases h : k' = k
      · simp only [h, if_true]
        exact .cons rx (RKs.upd1 rx t)
      · simp only [h, if_false]
        exact .cons r1 (RKs.upd1 rx t)
theorem RKs.put {k : Key} {x : PV} {v : V} (rx : RV K d H x v) {kvs : List (Key × PV)} {ws : List (Key × V)} (r : RKs K d H kvs ws) : RKs K d H (putP kvs k x) (putK ws k v) := by
  unfold putP putK
  rw [r.any]
  split
  · exact r.upd1 rx
  · exact r.append (.cons rx .nil)
theorem RKs.mono (e : Ext d H d' H') {kvs : List (Key × PV)} {ws : List (Key × V)} (r : RKs K d H kvs ws) : RKs K d' H' kvs ws := ⟨r.1, r.2.mono e⟩
def dictOfP (x : PV) (μ : Store) : Option (List (Key × PV)) := match x with | .mr n => (match μ[n]? with | some (.dk kvs) => some kvs | some (.fd _ _ kvs) => some kvs | _ => none) | _ => none
theorem dict_of {x : PV} {v : V} {kvs : List (Key × PV)} (w : WOk K d H μ) (r : RV K d H x v) (h : dictOfP x μ = some kvs) : ∃ n a ws, x = .mr n ∧ v = .ref a ∧ d.am[n]? = some a ∧ Rd H a (.dK ws) ∧ RKs K d H kvs ws := by
  cases r with
  | @mr n a h1 =>
    unfold dictOfP at h
    cases e : μ[n]? with
    | none => simp [e] at h
    | some m =>
      cases m with
      | lst zs => simp [e] at h
      | tk _ => simp [e] at h
      | nk _ => simp [e] at h
      | ft _ _ _ => simp [e] at h
      | fn _ _ _ => simp [e] at h
      | dk zs =>
        simp [e] at h
        subst h
        obtain ⟨ws, q, r1, r2⟩ := w.obj h1 e
        exact ⟨n, a, ws, rfl, rfl, h1, .inl q, r1, r2⟩
      | fd o ws zs =>
        simp [e] at h
        subst h
        obtain ⟨q, r1, r2⟩ := w.obj h1 e
        exact ⟨n, a, ws, rfl, rfl, h1, .inr ⟨o, q⟩, r1, r2⟩
  | _ => cases h
def mDGet (md my : ME) : ME := fun ρ μ P => md ρ μ fun x μ1 => my ρ μ1 fun y μ2 => match dictOfP x μ2, keyP y with | some kvs, some k => (match valP kvs k with | some v => P v μ2 | none => False) | _, _ => False
instance {td ty md my} [hd : FE K td md] [hy : FE K ty my] : FE K (tDGet td ty) (mDGet md my) := ⟨fun d σ H ρ μ P Q w e q k => by
  refine hd.run d σ H ρ μ _ _ w e q fun d1 H1 μ1 x v e1 w1 r1 q1 => ?_
  refine hy.run d1 σ H1 ρ μ1 _ _ w1 (e.mono e1) q1 fun d2 H2 μ2 y u e2 w2 r2 q2 => ?_
  cases a1 : dictOfP x μ2 with
  | none => rw [a1] at q2; exact q2.elim
  | some kvs =>
    cases a2 : keyP y with
    | none => rw [a1, a2] at q2; exact q2.elim
    | some kk =>
      rw [a1, a2] at q2
      simp only at q2
      obtain ⟨n, a, ws, rfl, rfl, _, hq, rk⟩ := dict_of w2 (r1.mono e2) a1
      obtain rfl := keyP_rv r2 a2
      rcases rk.val (k := kk) with ⟨z, _⟩ | ⟨x, v, z1, z2, rv⟩
      · rw [z] at q2; exact q2.elim
      · rw [z1] at q2
        exact ⟨a, v, rfl, .inl ⟨ws, kk, hq, rfl, z2.symm⟩, k d2 H2 μ2 _ _ (e1.trans e2) w2 rv q2⟩⟩
def mDIn (neg : Bool) (my md : ME) : ME := fun ρ μ P => my ρ μ fun y μ1 => md ρ μ1 fun x μ2 => match dictOfP x μ2, keyP y with | some kvs, some k => P (.bl (if neg then !(valP kvs k).isSome else (valP kvs k).isSome)) μ2 | _, _ => False
theorem din_run {x y : PV} {v u : V} {P : Option PV → Prop} {Q : Option V → Addr → Prop} (w : WOk K d H μ) (r1 : RV K d H x v) (r2 : RV K d H y u) (q : match dictOfP x μ, keyP y with | some kvs, some k => P (valP kvs k) | _, _ => False) :
    ∃ a o o', v = .ref a ∧ DGet H a u o ∧ o.isSome = o'.isSome ∧ P o' := by
  cases a1 : dictOfP x μ with
  | none => rw [a1] at q; exact q.elim
  | some kvs =>
    cases a2 : keyP y with
    | none => rw [a1, a2] at q; exact q.elim
    | some kk =>
      rw [a1, a2] at q
      obtain ⟨n, a, ws, rfl, rfl, _, hq, rk⟩ := dict_of w r1 a1
      obtain rfl := keyP_rv r2 a2
      refine ⟨a, valV ws kk, valP kvs kk, rfl, .inl ⟨ws, kk, hq, rfl, rfl⟩, ?_, q⟩
      rcases rk.val (k := kk) with ⟨z, z'⟩ | ⟨x, v, z1, z2, rv⟩
      · rw [z, z']; rfl
      · rw [z1, z2]; rfl
instance {td ty md my} [hd : FE K td md] [hy : FE K ty my] : FE K (tDIn ty td) (mDIn false my md) := ⟨fun d σ H ρ μ P Q w e q k => by
  refine hy.run d σ H ρ μ _ _ w e q fun d1 H1 μ1 y u e1 w1 r1 q1 => ?_
  refine hd.run d1 σ H1 ρ μ1 _ _ w1 (e.mono e1) q1 fun d2 H2 μ2 x v e2 w2 r2 q2 => ?_
  obtain ⟨a, o, o', rfl, g, eo, p⟩ := din_run (P := fun o => P (.bl o.isSome) μ2) (Q := fun _ _ => True) w2 r2 (r1.mono e2) q2
  exact ⟨a, o, rfl, g, by rw [eo]; exact k d2 H2 μ2 _ _ (e1.trans e2) w2 (.bl _) p⟩⟩
instance {td ty md my} [hd : FE K td md] [hy : FE K ty my] : FE K (tDNotIn ty td) (mDIn true my md) := ⟨fun d σ H ρ μ P Q w e q k => by
  refine hy.run d σ H ρ μ _ _ w e q fun d1 H1 μ1 y u e1 w1 r1 q1 => ?_
  refine hd.run d1 σ H1 ρ μ1 _ _ w1 (e.mono e1) q1 fun d2 H2 μ2 x v e2 w2 r2 q2 => ?_
  obtain ⟨a, o, o', rfl, g, eo, p⟩ := din_run (P := fun o => P (.bl (!o.isSome)) μ2) (Q := fun _ _ => True) w2 r2 (r1.mono e2) q2
  exact ⟨a, o, rfl, g, by rw [eo]; exact k d2 H2 μ2 _ _ (e1.trans e2) w2 (.bl _) p⟩⟩
def mDPut (md my mv : ME) : MS := fun P ρ μ => mv ρ μ fun z μ1 => md ρ μ1 fun x μ2 => my ρ μ2 fun y μ3 => match x, keyP y with | .mr n, some k => (match μ3[n]? with | some (.dk kvs) => kvs.length ≤ lim ∧ P.nx ρ (μ3.set n (.dk (putP kvs k z))) | _ => False) | _, _ => False
instance {td ty tv md my mv} [hd : FE K td md] [hy : FE K ty my] [hv : FE K tv mv] : FS K (sDPut td ty tv) (mDPut md my mv) := ⟨fun d σ H ρ μ P D w e q l => by
  refine hv.run d σ H ρ μ _ _ w e q fun d1 H1 μ1 z t e1 w1 r1 q1 => ?_
  refine hd.run d1 σ H1 ρ μ1 _ _ w1 (e.mono e1) q1 fun d2 H2 μ2 x v e2 w2 r2 q2 => ?_
  refine hy.run d2 σ H2 ρ μ2 _ _ w2 (e.mono (e1.trans e2)) q2 fun d3 H3 μ3 y u e3 w3 r3 q3 => ?_
  cases r2 with
  | @mr n a h1 =>
    cases a2 : keyP y with
    | none => rw [a2] at q3; exact q3.elim
    | some kk =>
      rw [a2] at q3
      simp only at q3
      cases a3 : μ3[n]? with
      | none => rw [a3] at q3; exact q3.elim
      | some m =>
        cases m with
        | lst _ => rw [a3] at q3; exact q3.elim
        | fd _ _ _ => rw [a3] at q3; exact q3.elim
        | tk _ => rw [a3] at q3; exact q3.elim
        | nk _ => rw [a3] at q3; exact q3.elim
        | ft _ _ _ => rw [a3] at q3; exact q3.elim
        | fn _ _ _ => rw [a3] at q3; exact q3.elim
        | dk kvs =>
          rw [a3] at q3
          have h3 := e3.at h1
          obtain ⟨ws, hq, rk1, rk2⟩ := w3.obj h3 a3
          have rk : RKs K d3 H3 kvs ws := ⟨rk1, rk2⟩
          obtain rfl := keyP_rv r3 a2
          have ha : a ∈ d3.am := List.mem_of_getElem? h3
          have ee : Ext d3 H3 d3 (upd H3 a (.dK (putK ws kk t))) := Ext.chg ha
          have rk' := (rk.put (k := kk) (r1.mono (e2.trans e3))).mono ee
          refine ⟨a, _, rfl, .inl ⟨ws, kk, hq, rfl, by rw [← rk.len]; exact lim_lt' q3.1, rfl⟩, ?_⟩
          exact l.nx d3 σ _ ρ _ (((e1.trans e2).trans e3).trans ee) (w3.chg (m := .dk (putP kvs kk z)) h3 ⟨_, upd_same, rk'.1, rk'.2⟩) (e.mono (((e1.trans e2).trans e3).trans ee)) q3.2
  | _ => exact q3.elim⟩
class FPs (K : PySem.W.Frag) (t : List (TE × TE)) (m : outParam (PEnv → Store → (List (PV × PV) → Store → Prop) → Prop)) : Prop where
  run : ∀ (d : Wd) (σ : L2.St) (H : Hp) (ρ : PEnv) (μ : Store) (P : List (PV × PV) → Store → Prop) (Q : List (V × V) → Hp → Prop), WOk K d H μ → REnv K d H ρ σ → m ρ μ P →
    (∀ d' H' μ' ps qs, Ext d H d' H' → WOk K d' H' μ' → RVs K d' H' (ps.map (·.1)) (qs.map (·.1)) → RVs K d' H' (ps.map (·.2)) (qs.map (·.2)) → P ps μ' → Q qs H') → tPairs t σ H Q
def mPs0 : PEnv → Store → (List (PV × PV) → Store → Prop) → Prop := fun _ μ P => P [] μ
def mPs (a b : ME) (r : PEnv → Store → (List (PV × PV) → Store → Prop) → Prop) : PEnv → Store → (List (PV × PV) → Store → Prop) → Prop := fun ρ μ P => a ρ μ fun x μ1 => b ρ μ1 fun y μ2 => r ρ μ2 fun ps μ3 => P ((x, y) :: ps) μ3
instance : FPs K [] mPs0 := ⟨fun d σ H ρ μ P Q w e q k => k d H μ [] [] .refl w .nil .nil q⟩
instance {a b r m n s} [ha : FE K a m] [hb : FE K b n] [hr : FPs K r s] : FPs K ((a, b) :: r) (mPs m n s) := ⟨fun d σ H ρ μ P Q w e q k => by
  refine ha.run d σ H ρ μ _ _ w e q fun d1 H1 μ1 x v e1 w1 r1 q1 => ?_
  refine hb.run d1 σ H1 ρ μ1 _ _ w1 (e.mono e1) q1 fun d2 H2 μ2 y u e2 w2 r2 q2 => ?_
  exact hr.run d2 σ H2 ρ μ2 _ _ w2 (e.mono (e1.trans e2)) q2 fun d3 H3 μ3 ps qs e3 w3 r3 r4 q3 =>
    k d3 H3 μ3 ((x, y) :: ps) ((v, u) :: qs) ((e1.trans e2).trans e3) w3 (.cons (r1.mono (e2.trans e3)) r3) (.cons (r2.mono e3) r4) q3⟩
def keysP : List (PV × PV) → Option (List (Key × PV))
  | [] => some []
  | (x, y) :: r => match keyP x, keysP r with | some k, some ks => some ((k, y) :: ks) | _, _ => none
def mDisp (m : PEnv → Store → (List (PV × PV) → Store → Prop) → Prop) : ME := fun ρ μ P => m ρ μ fun ps μ1 => match keysP ps with | some kvs => kvs.length ≤ 15 ∧ P (.mr μ1.length) (μ1 ++ [.dk (kvs.foldl (fun acc kv => putP acc kv.1 kv.2) [])]) | none => False
theorem keysP_rv : ∀ {ps : List (PV × PV)} {qs : List (V × V)} {kvs : List (Key × PV)}, RVs K d H (ps.map (·.1)) (qs.map (·.1)) → RVs K d H (ps.map (·.2)) (qs.map (·.2)) → keysP ps = some kvs →
    ∃ ws : List (Key × V), qs = ws.map (fun kv => (kV kv.1, kv.2)) ∧ RKs K d H kvs ws
  | [], [], _, _, _, h => by cases h; exact ⟨[], rfl, .nil⟩
  | [], _ :: _, _, r, _, _ => by cases r
  | _ :: _, [], _, r, _, _ => by cases r
  | (x, y) :: ps, (v, u) :: qs, kvs, r1, r2, h => by
    simp only [keysP] at h
    cases a1 : keyP x with
    | none => rw [a1] at h; simp at h
    | some k =>
      cases a2 : keysP ps with
      | none => rw [a1, a2] at h; simp at h
      | some ks =>
        rw [a1, a2] at h; simp at h; subst h
        cases r1 with
        | cons r1 t1 =>
          cases r2 with
          | cons r2 t2 =>
            obtain ⟨ws, e, rk⟩ := keysP_rv t1 t2 a2
            have e1 : v = kV k := keyP_rv r1 a1
            have e1 : v = kV k := e1
            refine ⟨(k, u) :: ws, ?_, .cons r2 rk⟩
            rw [List.map_cons, ← e, ← e1]
theorem RKs.fold : ∀ {more : List (Key × PV)} {ws : List (Key × V)} {acc : List (Key × PV)} {as : List (Key × V)}, RKs K d H more ws → RKs K d H acc as → RKs K d H (more.foldl (fun acc kv => putP acc kv.1 kv.2) acc) (mergeK as ws)
  | [], ws, acc, as, r, ra => by
    rcases r.cases with ⟨_, e⟩ | ⟨_, _, _, _, _, e, _⟩
    · subst e; exact ra
    · cases e
  | p :: more, ws, acc, as, r, ra => by
    rcases r.cases with ⟨e, _⟩ | ⟨k', x', v', kvs', ws', e1, e2, r1, t⟩
    · cases e
    · cases e1; subst e2
      exact RKs.fold (more := more) (ws := ws') t (ra.put r1)
theorem WOk.barK {D : Addr} {o : HO} (w : WOk K d H μ) (h : H D = none) : WOk K ⟨d.am, D :: d.ban⟩ (upd H D o) μ := by
  have b : Bars d ⟨d.am, D :: d.ban⟩ H := ⟨rfl, fun x q => (List.mem_cons.mp q).elim (fun z => .inr (by rw [z]; exact h)) .inl⟩
  refine ⟨w.len, w.nd, fun i a m h1 h2 => ?_, fun x hx => ?_⟩
  · have hm := w.ob i a m h1 h2
    have hne : a ≠ D := by rintro rfl; exact w.notin h (List.mem_of_getElem? h1)
    have e : Ext ⟨d.am, D :: d.ban⟩ H ⟨d.am, D :: d.ban⟩ (upd H D o) := ⟨⟨[], by simp, fun p hp => by simp at hp⟩, rfl, fun b u e _ => by rw [upd_ne (ne_of_none e h)]; exact e⟩
    cases m with
    | lst xs => obtain ⟨vs, q, r⟩ := hm; exact ⟨vs, by rw [upd_ne hne]; exact q, (r.bars b).mono e⟩
    | dk kvs => obtain ⟨vs, q, r1, r2⟩ := hm; exact ⟨vs, by rw [upd_ne hne]; exact q, r1, (r2.bars b).mono e⟩
    | fd o ws kvs => obtain ⟨q, r1, r2⟩ := hm; exact ⟨by rw [upd_ne hne]; exact q, r1, (r2.bars b).mono e⟩
    | tk kvs => obtain ⟨vs, q, r0, r1, r2⟩ := hm; exact ⟨vs, by rw [upd_ne hne]; exact q, r0, (r1.bars b).mono e, (r2.bars b).mono e⟩
    | nk kvs => obtain ⟨vs, q, r0, r1, r2⟩ := hm; exact ⟨vs, by rw [upd_ne hne]; exact q, r0, (r1.bars b).mono e, (r2.bars b).mono e⟩
    | ft o ws kvs => obtain ⟨q, r0, r1, r2⟩ := hm; exact ⟨by rw [upd_ne hne]; exact q, r0, (r1.bars b).mono e, (r2.bars b).mono e⟩
    | fn o ws kvs => obtain ⟨q, r0, r1, r2⟩ := hm; exact ⟨by rw [upd_ne hne]; exact q, r0, (r1.bars b).mono e, (r2.bars b).mono e⟩
  · rcases List.mem_cons.mp hx with z | z
    · subst z
      exact ⟨by rw [upd_same]; simp, w.notin h⟩
    · obtain ⟨q1, q2⟩ := w.ban x z
      refine ⟨?_, q2⟩
      have hne : x ≠ D := by rintro rfl; exact q1 h
      rw [upd_ne hne]; exact q1
instance {t m} [h : FPs K t m] : FE K (tDisp t) (mDisp m) := ⟨fun d σ H ρ μ P Q w e q k => by
  intro D hD
  have bD : Bars d ⟨d.am, D :: d.ban⟩ H := ⟨rfl, fun x q => (List.mem_cons.mp q).elim (fun z => .inr (by rw [z]; exact hD)) .inl⟩
  have lay0 : Ext ⟨d.am, D :: d.ban⟩ H ⟨d.am, D :: d.ban⟩ (upd H D (.dK [])) := ⟨⟨[], by simp, fun p hp => by simp at hp⟩, rfl, fun b u e _ => by rw [upd_ne (ne_of_none e hD)]; exact e⟩
  refine h.run _ σ _ ρ μ _ _ (w.barK hD) ((e.bars bD).mono lay0) q fun dB H1 μ1 ps qs e1 w1 r1 r2 q1 => ?_
  have nD : D ∉ (⟨d.am, D :: d.ban⟩ : Wd).am := w.notin hD
  have hD1 : H1 D = some (.dK []) := e1.keep _ _ upd_same nD
  refine ⟨hD1, ?_⟩
  cases a1 : keysP ps with
  | none => rw [a1] at q1; exact q1.elim
  | some kvs =>
    rw [a1] at q1
    obtain ⟨ws, eq, rk⟩ := keysP_rv r1 r2 a1
    refine ⟨ws, eq, by rw [← rk.len]; exact q1.1, ?_⟩
    have banB : D ∈ dB.ban := by rw [e1.ban]; exact List.mem_cons_self
    have nt := no_tupK hD1
    have w2 := w1.made (o := .dK (mergeK [] ws)) banB nt
    have hD2 : (upd H1 D (.dK (mergeK [] ws))) D = some (.dK (mergeK [] ws)) := upd_same
    have nt2 := no_tupK hD2
    have rk2 := rk.fold (K := K) (d := dB) (H := H1) .nil
    have hs : ∀ b ∈ d.ban, b ∈ dB.ban := fun b hb => by rw [e1.ban]; exact List.mem_cons_of_mem _ hb
    have hnD := (w1.ban D banB).2
    have hm : MOK K ⟨dB.am ++ [D], d.ban⟩ (upd H1 D (.dK (mergeK [] ws))) D (.dk (kvs.foldl (fun acc kv => putP acc kv.1 kv.2) [])) := ⟨_, hD2, rk2.1, (rk2.2.made banB nt).pushed banB nt2 hs⟩
    refine k ⟨dB.am ++ [D], d.ban⟩ _ _ _ _ ⟨?_, rfl, fun b o hb hn => ?_⟩ (w2.pushed banB nt2 hs (w.notban hD) hm) (.mr ?_) q1.2
    · obtain ⟨ex, q, f⟩ := e1.am
      refine ⟨ex ++ [D], by rw [q, List.append_assoc], fun p hp => ?_⟩
      rcases List.mem_append.mp hp with z | z
      · obtain ⟨f1, f2⟩ := f p z
        refine ⟨?_, f2⟩
        by_cases hpD : p = D
        · subst hpD; exact hD
        · rw [upd_ne hpD] at f1; exact f1
      · have e := List.mem_singleton.mp z
        subst e
        exact ⟨hD, nD⟩
    · have hne : b ≠ D := ne_of_none hb hD
      rw [upd_ne hne]
      exact e1.keep b o (by rw [upd_ne hne]; exact hb) hn
    · show (dB.am ++ [D])[μ1.length]? = some D
      rw [← w1.len, List.getElem?_append_right (Nat.le_refl _)]
      simp⟩
def isSeqD : PyData → Bool | .list _ => true | .tuple _ => true | _ => false
def rRepr (K : PySem.W.Frag) : List V → Hp → VK → Prop := fun xs H Q => ∃ x e, xs = [x] ∧ Dp K H x e ∧ isSeqD e = true ∧ e.showable = true ∧ e.hasDict = false ∧ e.depth ≤ 60 ∧ e.shown.length ≤ lim ∧ Q (.str e.shown) H
theorem cb_repr {X : Cx} (hg : X.A.guards = some []) (hu : X.A.units + 64 < cLine) : CallR X (.builtin "repr") (rRepr X.K) := by
  intro pins s σ H vs us Q I r h
  obtain ⟨x, e, rfl, hd, hs, h1, h2, h3, h4, q⟩ := h
  obtain ⟨u, rfl, ru⟩ := vals1 r
  obtain ⟨as, rd⟩ := Dp.reads I e x u hd ru
  have hv : ∃ a, u = .ref a := by
    cases rd <;> first | exact ⟨_, rfl⟩ | cases hs
  obtain ⟨a, rfl⟩ := hv
  exact repr_of_reads' rd h1 (PyData.noDict_hsm h2) hg (by omega) (fun _ _ z => z) (fun h' u tk hk => ⟨.str e.shown, H, I.kept hk, ⟨_, rfl⟩, q⟩) (lim_lt h4)
def pRepr : MB := fun xs μ P => match xs with | [x] => (match datP (frzP x μ) with | some e => (isSeqD e = true ∧ e.showable = true ∧ e.hasDict = false ∧ e.depth ≤ 60 ∧ e.shown.length ≤ lim) ∧ P (.str e.shown) μ | none => False) | _ => False
instance : FB K (rRepr K) pRepr := ⟨fun d H μ xs vs P Q w r q k => by
  match xs, r, q with
  | [x], .cons (v := v) r .nil, q =>
    unfold pRepr at q
    simp only at q
    cases e : datP (frzP x μ) with
    | none => rw [e] at q; exact q.elim
    | some dd =>
      rw [e] at q
      obtain ⟨⟨h1, h2, h3, h4, h5⟩, q⟩ := q
      exact ⟨v, dd, rfl, frz_dp w r e, h1, h2, h3, h4, h5, k d H μ _ _ .refl w (.str _) q⟩⟩
def tyP : PV → Option String
  | .non => some "NoneType" | .bl _ => some "bool" | .int _ => some "int" | .str _ => some "str" | .tup _ => some "tuple" | .lst _ => some "list" | _ => none
theorem tyP_rv {x : PV} {v : V} {T : String} (r : RV K d H x v) (h : tyP x = some T) : TyX K H v (.type T) := by
  cases r with
  | non => cases h; exact .base .non
  | bl b => cases h; exact .base (.bl b)
  | int i => cases h; exact .base (.int i)
  | str i => cases h; exact .base (.str i)
  | ty i => cases h
  | tup h1 h2 =>
    cases h
    rcases h1 with ⟨z | ⟨o, z⟩, _⟩ | (z | ⟨o, z⟩) | ⟨o, its, n, z1, z2, _⟩
    · exact .base (.tup z)
    · exact .fTuple z
    · cases z
    · cases z
    · exact .kTuple z1 z2
  | lst h1 h2 => cases h; exact .base (.lst h1.1)
  | kl h1 h2 => cases h
  | mr h1 => cases h
def pIsi : MB := fun xs μ P => match xs with | [x, .ty n] => (match tyP x with | some T => (match kitB T n with | some b => P (.bl b) μ | none => False) | none => False) | _ => False
instance : FB K (rIsi K) pIsi := ⟨fun d H μ xs vs P Q w r q k => by
  match xs, r, q with
  | [x, .ty n], .cons (v := v) r (.cons (.ty _) .nil), q =>
    unfold pIsi at q
    simp only at q
    cases e : tyP x with
    | none => rw [e] at q; exact q.elim
    | some T =>
      rw [e] at q
      simp only at q
      cases e2 : kitB T n with
      | none => rw [e2] at q; exact q.elim
      | some b =>
        rw [e2] at q
        exact ⟨v, .ty n, .type T, .type n, b, rfl, .ty n, tyP_rv r e, kit_ty e2, k d H μ _ _ .refl w (.bl _) q⟩⟩
end
end Fx
namespace Fx
open PySem PySem.Spec PyProof.Rows L2 RZ
abbrev PSp := List PV → Store → (PV → Store → Prop) → Prop
def QvOf (K : PySem.W.Frag) (d : Wd) (H : Hp) (Q : PV → Store → Prop) : VK := fun v H' => ∃ d' x μ', Ext d H d' H' ∧ WOk K d' H' μ' ∧ RV K d' H' x v ∧ Q x μ'
structure FnG (P : Program) (w : World) (K : PySem.W.Frag) (mg : Str → Option Value) (base : Heap) (k : Nat) (f : Addr) (fd : FuncData) (ps : List Str) (S : PSp) : Prop where
  len : ∀ xs μ Q, S xs μ Q → xs.length = ps.length
  run : ∀ (A : Around) (outer : List Env) (s : Shared) (H : Hp) (args : Args) (us : List Value) (vs : List V) (xs : List PV) (d : Wd) (μ : Store) (Q : PV → Store → Prop),
    Room k A → A.guards = some [] → Env0 P w K mg base A outer s H → BindsTo s fd args (ps.zip us) → Vals vs us → WOk K d H μ → RVs K d H xs vs → S xs μ Q →
    codeAny (model P w) A (.call (.ref f) args) (CR CX0 outer P w H s (QvOf K d H Q) E0) s
theorem FnG.mono {P : Program} {w : World} {K : PySem.W.Frag} {mg : Str → Option Value} {base : Heap} {j k : Nat} {f : Addr} {fd : FuncData} {ps : List Str} {S : PSp} (F : FnG P w K mg base j f fd ps S) (h : j ≤ k) : FnG P w K mg base k f fd ps S :=
  ⟨F.len, fun A outer s H args us vs xs d μ Q hr => F.run A outer s H args us vs xs d μ Q (hr.mono h)⟩
theorem FnG.imp {P : Program} {w : World} {K : PySem.W.Frag} {mg : Str → Option Value} {base : Heap} {k : Nat} {f : Addr} {fd : FuncData} {ps : List Str} {S S' : PSp} (F : FnG P w K mg base k f fd ps S) (h : ∀ xs μ Q, S' xs μ Q → S xs μ Q) : FnG P w K mg base k f fd ps S' :=
  ⟨fun xs μ Q q => F.len xs μ Q (h _ _ _ q), fun A outer s H args us vs xs d μ Q hr hg e0 hb hv w r q => F.run A outer s H args us vs xs d μ Q hr hg e0 hb hv w r (h _ _ _ q)⟩
def tCallG (K : PySem.W.Frag) (S : PSp) (t : TA) : TE := fun σ H Q => t σ H fun vs H1 => ∃ d μ xs Q', WOk K d H1 μ ∧ RVs K d H1 xs vs ∧ S xs μ Q' ∧ ∀ v H2, QvOf K d H1 Q' v H2 → Q v H2
def perm {α : Type} (ix : List Nat) (l : List α) : List α := ix.filterMap (l[·]?)
def tCallKG (K : PySem.W.Frag) (S : PSp) (ix : List Nat) (t tk : TA) : TE := fun σ H Q => t σ H fun vs H1 => tk σ H1 fun zs H2 => ∃ d μ xs Q', WOk K d H2 μ ∧ RVs K d H2 xs (perm ix (vs ++ zs)) ∧ S xs μ Q' ∧ ∀ v H3, QvOf K d H2 Q' v H3 → Q v H3
section
variable {X : Cx} {k : Nat} {f : Addr} {fd : FuncData} {ps ks : List Str} {S : PSp} {x : Str} {p pos : Pos} {e : Expr} {es : List Expr} {kws : List Keyword} {t tk : TA}
theorem go_fn {pins : List (Addr × Obj)} {σ : L2.St} {H : Hp} {s : Shared} {Q : VK} {us : List Value} {args : Args} {vs : List V} {d : Wd} {μ : Store} {xs : List PV} {Q' : PV → Store → Prop} (F : FnG X.prog X.w X.K X.mg X.base k f fd ps S) (hr : Room k X.A) (hg : X.A.guards = some [])
    (I : Inv X pins σ H s) (hb : BindsTo s fd args (ps.zip us)) (r : Vals vs us) (w : WOk X.K d H μ) (rx : RVs X.K d H xs vs) (h : S xs μ Q') (fin : ∀ v H2, QvOf X.K d H Q' v H2 → Q v H2) :
    codeAny (model X.prog X.w) X.A (.call (.ref f) args) (fun r s' => match r with | .ok (.ret u) => EP X pins σ Q u s' | _ => False) s := by
  refine codeAny_mono (F.run X.A X.stack s H args us vs xs d μ Q' hr hg I.env0 hb r w rx h) fun res s' hq => ?_
  match res, hq with
  | .ok (.ret u), hq =>
    obtain ⟨v, H', a1, a2, a3, a4, a5, a6⟩ := hq
    exact I.after ⟨v, H', a1, a2, a3, a4, a5, fin v H' a6⟩
  | .ok .next, hq => exact hq.elim
  | .ok .brk, hq => exact hq.elim
  | .ok .cont, hq => exact hq.elim
  | .error _, hq => exact hq.elim
theorem perm_rel {α β : Type} {R : α → β → Prop} {l : List α} {l' : List β} (h : Paired R l l') : ∀ ix : List Nat, Paired R (perm ix l) (perm ix l')
  | [] => .nil
  | i :: ix => by
    have ih := perm_rel h ix
    have g : ∀ {l : List α} {l' : List β} (i : Nat), Paired R l l' → (l[i]? = none ∧ l'[i]? = none) ∨ ∃ a b, l[i]? = some a ∧ l'[i]? = some b ∧ R a b := by
      intro l l' i h
      induction h generalizing i with
      | nil => exact .inl ⟨by simp, by simp⟩
      | cons r t ih =>
        cases i with
        | zero => exact .inr ⟨_, _, rfl, rfl, r⟩
        | succ i => simpa using ih i
    rcases g i h with ⟨h1, h2⟩ | ⟨a, b, h1, h2, r⟩
    · simpa [perm, h1, h2] using ih
    · simpa [perm, h1, h2] using Paired.cons r ih
theorem perm_rvs {K : PySem.W.Frag} {d : Wd} {H : Hp} {xs : List PV} {vs : List V} (h : RVs K d H xs vs) : ∀ ix : List Nat, RVs K d H (perm ix xs) (perm ix vs)
  | [] => .nil
  | i :: ix => by
    have ih := perm_rvs h ix
    cases e : xs[i]? with
    | none =>
      have e2 : vs[i]? = none := by
        have := List.getElem?_eq_none_iff.mp e
        exact List.getElem?_eq_none_iff.mpr (by rw [← h.length]; exact this)
      simpa [perm, e, e2] using ih
    | some a =>
      obtain ⟨b, e2, r⟩ := h.get e
      simpa [perm, e, e2] using RVs.cons r ih
theorem pe_callG (F : FnG X.prog X.w X.K X.mg X.base k f fd ps S) (hr : Room k X.A) (hgd : X.A.guards = some []) (hg : Gl X x) (hm : X.mg x = some (.ref f)) (hk : PySem.W.keepIn X.K (.ref f) = true) (hb : Binds X.K fd ps [])
    (ha : PA X (e :: es) t) (hdb : (x == ("__debug__" : Str)) = false := by decide) (he : starEach (e :: es) X.env = (false, eval e X.env) :: starEach es X.env := by rfl) (hpl : (backTo pos (starEach es X.env)).any (·.1) = false := by rfl) :
    PE X (.Call (.Name x p) (e :: es) [] pos) (tCallG X.K S t) := ⟨fun pins s σ H Q I h => by
  refine wpAny_Call_Name_kw (ld_glob I hg hm (PySem.W.callWith_K (h₀ := X.base) I.ok.mod.kin hk (thn (ha.run pos pins s σ H _ I h) fun us s1 hq => ?_) he hpl) hdb)
  obtain ⟨vs, H1, I1, r, d, μ, xs, Q', w, rx, hS, fin⟩ := hq
  have hl : us.length = ps.length := by rw [← r.length, ← rx.length]; exact F.len _ _ _ hS
  refine ⟨I1.kIn, wpAny_call ?_⟩
  have hb' := hb s1 us I1.kIn (by rw [List.append_nil]; exact hl)
  rw [List.append_nil] at hb'
  exact codeAny_mono (go_fn F hr hgd I1 hb' r w rx hS fin) fun res s' hq => by
    match res, hq with
    | .ok (.ret u), hq => exact hq⟩
def KBs (fd : FuncData) (ps ks : List Str) (n : Nat) (ix : List Nat) : Prop := ∀ (s : Shared) (us ws : List Value), us.length = n → ws.length = ks.length → BindsTo s fd ⟨us, ks.zip ws⟩ (ps.zip (perm ix (us ++ ws)))
theorem pe_callK0G {ix : List Nat} (F : FnG X.prog X.w X.K X.mg X.base k f fd ps S) (hr : Room k X.A) (hgd : X.A.guards = some []) (hg : Gl X x) (hm : X.mg x = some (.ref f)) (hk : PySem.W.keepIn X.K (.ref f) = true) (hb : KBs fd ps ks 0 ix)
    (hkw : PK X kws tk) (hln : ∀ ws : List Value, True := by intro _; trivial) (hall : (backToKw pos (keywordEach kws X.env)).all (·.1.isSome) = true := by rfl) (hks : (backToKw pos (keywordEach kws X.env)).filterMap (·.1) = ks := by rfl)
    (hn : kws.length = ks.length := by rfl) (hix : ∀ zs : List V, zs.length = ks.length → True := by intro _ _; trivial) (hdb : (x == ("__debug__" : Str)) = false := by decide)
    (hpl : ((backTo pos (starEach [] X.env)).any (·.1) || (backToKw pos (keywordEach kws X.env)).any (·.1.isNone)) = false := by rfl) (hkl : ((backToKw pos (keywordEach kws X.env)).map (·.2)).length = ks.length := by rfl) :
    PE X (.Call (.Name x p) [] kws pos) (tCallKG X.K S ix (fun _ H Q => Q [] H) (fun σ H Q => tk σ H fun zs H1 => zs.length = ks.length ∧ Q zs H1)) := ⟨fun pins s σ H Q I h => by
  refine wpAny_Call_Name_kw (ld_glob I hg hm (PySem.W.callWith_KW0 (h₀ := X.base) I.ok.mod.kin hk hall (thn (hkw.run pos pins s σ H _ I h) fun ws s2 hq => ?_) hpl) hdb)
  obtain ⟨zs, H2, I2, rz, hz, d, μ, xs, Q', w, rx, hS, fin⟩ := hq
  refine ⟨I2.kIn, wpAny_call ?_⟩
  rw [hks]
  have rz' : Vals (perm ix ([] ++ zs)) (perm ix ([] ++ ws)) := perm_rel (by simpa using rz) ix
  exact codeAny_mono (go_fn F hr hgd I2 (hb s2 [] ws rfl (by rw [← rz.length]; exact hz)) rz' w rx hS fin) fun res s' hq => by
    match res, hq with
    | .ok (.ret u), hq => exact hq⟩
end
section
variable {K : PySem.W.Frag}
def mCall (S : PSp) (m : MA) : ME := fun ρ μ P => m ρ μ fun xs μ1 => S xs μ1 P
instance {S t m} [h : FA K t m] : FE K (tCallG K S t) (mCall S m) := ⟨fun d σ H ρ μ P Q w e q k => by
  refine h.run d σ H ρ μ _ _ w e q fun d1 H1 μ1 xs vs e1 w1 r1 q1 => ?_
  refine ⟨d1, μ1, xs, P, w1, r1, q1, fun v H2 ⟨d2, x, μ2, e2, w2, r2, q2⟩ => k d2 H2 μ2 x v (e1.trans e2) w2 r2 q2⟩⟩
def mCallK (S : PSp) (ix : List Nat) (n : Nat) (m : MA) : ME := fun ρ μ P => m ρ μ fun xs μ1 => xs.length = n ∧ S (perm ix xs) μ1 P
instance {S ix t m} {n : Nat} [h : FA K t m] : FE K (tCallKG K S ix (fun _ H Q => Q [] H) (fun σ H Q => t σ H fun zs H1 => zs.length = n ∧ Q zs H1)) (mCallK S ix n m) := ⟨fun d σ H ρ μ P Q w e q k => by
  refine h.run d σ H ρ μ _ _ w e q fun d1 H1 μ1 xs vs e1 w1 r1 q1 => ?_
  refine ⟨by rw [← r1.length]; exact q1.1, d1, μ1, perm ix xs, P, w1, by simpa using perm_rvs r1 ix, q1.2, fun v H2 ⟨d2, x, μ2, e2, w2, r2, q2⟩ => k d2 H2 μ2 x v (e1.trans e2) w2 r2 q2⟩⟩
end
mutual
def noRef : PV → Bool
  | .mr _ => false
  | .tup xs => noRefs xs
  | .lst xs => noRefs xs
  | .kl xs => noRefs xs
  | _ => true
def noRefs : List PV → Bool
  | [] => true
  | x :: xs => noRef x && noRefs xs
end
inductive Gc (μ0 : Store) (x : PV) (μ : Store) : PV → Store → Prop
  | keep : Gc μ0 x μ x μ
  | drop (g : Store) : μ = μ0 ++ g → noRef x = true → Gc μ0 x μ x μ0
  | froz (n : Nat) (g : Store) (xs : List PV) : x = .mr n → μ = μ0 ++ g → μ[n]? = some (.lst xs) → μ0.length ≤ n → noRefs xs = true → Gc μ0 x μ (.lst xs) μ0
  | newl (n : Nat) (g : Store) (xs : List PV) : x = .mr n → μ = μ0 ++ g → μ[n]? = some (.lst xs) → μ0.length ≤ n → noRefs xs = true → Gc μ0 x μ (.mr μ0.length) (μ0 ++ [.lst xs])
  | newd (n : Nat) (g : Store) (kvs : List (Key × PV)) : x = .mr n → μ = μ0 ++ g → μ[n]? = some (.dk kvs) → μ0.length ≤ n → noRefs (kvs.map (·.2)) = true → Gc μ0 x μ (.mr μ0.length) (μ0 ++ [.dk kvs])
  | froz2 (n : Nat) (g : Store) (ks : List Nat) (yss : List (List PV)) : x = .mr n → μ = μ0 ++ g → μ[n]? = some (.lst (ks.map .mr)) → μ0.length ≤ n → ks.length = yss.length →
      (∀ (i k : Nat) (ys : List PV), ks[i]? = some k → yss[i]? = some ys → μ[k]? = some (.lst ys) ∧ μ0.length ≤ k ∧ noRefs ys = true) → Gc μ0 x μ (.lst (yss.map .lst)) μ0
section
variable {K : PySem.W.Frag} {d d' : Wd} {H H' : Hp} {μ0 μ : Store}
mutual
theorem RV.fewer {am : List Addr} (ha : ∀ b ∈ am, b ∈ d.am) : ∀ {x : PV} {v : V}, RV K d H x v → noRef x = true → RV K ⟨am, d.ban⟩ H x v
  | _, _, .non, _ => .non
  | _, _, .bl b, _ => .bl b
  | _, _, .int i, _ => .int i
  | _, _, .str x, _ => .str x
  | _, _, .ty n, _ => .ty n
  | _, _, .tup h r, z => .tup (h.imp (fun q => ⟨q.1, fun m => q.2 (ha _ m)⟩) id) (RVs.fewer ha r z)
  | _, _, .lst h r, z => .lst ⟨h.1, fun m => h.2.1 (ha _ m), h.2.2⟩ (RVs.fewer ha r z)
  | _, _, .kl h r, z => .kl (h.imp (fun q => ⟨q.1, fun m => q.2.1 (ha _ m), q.2.2⟩) id) (RVs.fewer ha r z)
  | _, _, .mr h, z => by cases z
theorem RVs.fewer {am : List Addr} (ha : ∀ b ∈ am, b ∈ d.am) : ∀ {xs : List PV} {vs : List V}, RVs K d H xs vs → noRefs xs = true → RVs K ⟨am, d.ban⟩ H xs vs
  | _, _, .nil, _ => .nil
  | _, _, .cons r t, z => by
    simp only [noRefs, Bool.and_eq_true] at z
    exact .cons (RV.fewer ha r z.1) (RVs.fewer ha t z.2)
end
mutual
theorem RV.back {am am2 bn : List Addr} {H0 : Hp} (hs : ∀ b ∈ am2, b ∈ d'.am) (hp : ∀ (n : Nat) b, am[n]? = some b → am2[n]? = some b ∧ d'.am[n]? = some b) : ∀ {x : PV} {v u : V}, RV K ⟨am, bn⟩ H0 x v → RV K d' H' x u → RV K ⟨am2, d'.ban⟩ H' x u
  | _, _, _, .non, .non => .non
  | _, _, _, .bl b, .bl _ => .bl b
  | _, _, _, .int i, .int _ => .int i
  | _, _, _, .str x, .str _ => .str x
  | _, _, _, .ty n, .ty _ => .ty n
  | _, _, _, .tup _ r, .tup h' r' => .tup (h'.imp (fun q => ⟨q.1, fun m => q.2 (hs _ m)⟩) id) (RVs.back hs hp r r')
  | _, _, _, .lst _ r, .lst h r' => .lst ⟨h.1, fun m => h.2.1 (hs _ m), h.2.2⟩ (RVs.back hs hp r r')
  | _, _, _, .kl _ r, .kl h' r' => .kl (h'.imp (fun q => ⟨q.1, fun m => q.2.1 (hs _ m), q.2.2⟩) id) (RVs.back hs hp r r')
  | _, _, _, .mr h, .mr h' => .mr (by
      obtain ⟨h1, h2⟩ := hp _ _ h
      rw [h2] at h'; cases h'
      exact h1)
theorem RVs.back {am am2 bn : List Addr} {H0 : Hp} (hs : ∀ b ∈ am2, b ∈ d'.am) (hp : ∀ (n : Nat) b, am[n]? = some b → am2[n]? = some b ∧ d'.am[n]? = some b) : ∀ {xs : List PV} {vs us : List V}, RVs K ⟨am, bn⟩ H0 xs vs → RVs K d' H' xs us → RVs K ⟨am2, d'.ban⟩ H' xs us
  | _, _, _, .nil, .nil => .nil
  | _, _, _, .cons r t, .cons r' t' => .cons (RV.back hs hp r r') (RVs.back hs hp t t')
end
theorem MOK.back {am am2 bn : List Addr} {H0 : Hp} {a : Addr} (hs : ∀ b ∈ am2, b ∈ d'.am) (hp : ∀ (n : Nat) b, am[n]? = some b → am2[n]? = some b ∧ d'.am[n]? = some b) {m : MO} (m0 : MOK K ⟨am, bn⟩ H0 a m) (m1 : MOK K d' H' a m) : MOK K ⟨am2, d'.ban⟩ H' a m := by
  cases m with
  | lst xs =>
    obtain ⟨vs, q, r⟩ := m0
    obtain ⟨us, q', r'⟩ := m1
    exact ⟨us, q', RVs.back hs hp r r'⟩
  | dk kvs =>
    obtain ⟨vs, q, r1, r⟩ := m0
    obtain ⟨us, q', r1', r'⟩ := m1
    exact ⟨us, q', r1', RVs.back hs hp r r'⟩
  | fd o ws kvs =>
    obtain ⟨q, r1, r⟩ := m0
    obtain ⟨q', r1', r'⟩ := m1
    exact ⟨q', r1', RVs.back hs hp r r'⟩
  | tk kvs =>
    obtain ⟨vs, q, r0, r1, r⟩ := m0
    obtain ⟨us, q', r0', r1', r'⟩ := m1
    exact ⟨us, q', r0', RVs.back hs hp r1 r1', RVs.back hs hp r r'⟩
  | ft o ws kvs =>
    obtain ⟨q, r0, r1, r⟩ := m0
    obtain ⟨q', r0', r1', r'⟩ := m1
    exact ⟨q', r0', RVs.back hs hp r1 r1', RVs.back hs hp r r'⟩
  | nk kvs =>
    obtain ⟨vs, q, r0, r1, r⟩ := m0
    obtain ⟨us, q', r0', r1', r'⟩ := m1
    exact ⟨us, q', r0', RVs.back hs hp r1 r1', RVs.back hs hp r r'⟩
  | fn o ws kvs =>
    obtain ⟨q, r0, r1, r⟩ := m0
    obtain ⟨q', r0', r1', r'⟩ := m1
    exact ⟨q', r0', RVs.back hs hp r1 r1', RVs.back hs hp r r'⟩
theorem WOk.back {g : Store} (e : Ext d H d' H') (w0 : WOk K d H μ0) (w : WOk K d' H' (μ0 ++ g)) : Ext d H d H' ∧ WOk K d H' μ0 := by
  obtain ⟨am, bn⟩ := d
  have hb := e.ban
  simp only at hb
  refine ⟨⟨⟨[], by simp, fun p hp => by simp at hp⟩, rfl, e.keep⟩, w0.len, w0.nd, fun i a m h1 h2 => ?_, fun b hb' => ?_⟩
  · have hi : i < μ0.length := (List.getElem?_eq_some_iff.mp h2).1
    have h3 : (μ0 ++ g)[i]? = some m := by rw [List.getElem?_append_left hi]; exact h2
    have := MOK.back (am2 := am) (fun b hb => e.mem hb) (fun n b q => ⟨q, e.at q⟩) (w0.ob i a m h1 h2) (w.ob i a m (e.at h1) h3)
    rw [hb] at this
    exact this
  · obtain ⟨q1, q2⟩ := w.ban b (by rw [hb]; exact hb')
    exact ⟨q1, fun z => q2 (e.mem z)⟩
theorem Gc.ok {x y : PV} {μ' : Store} {v : V} (h : Gc μ0 x μ y μ') (e : Ext d H d' H') (w0 : WOk K d H μ0) (w : WOk K d' H' μ) (r : RV K d' H' x v) : ∃ d2, Ext d H d2 H' ∧ WOk K d2 H' μ' ∧ RV K d2 H' y v := by
  obtain ⟨ex, ha, hf⟩ := e.am
  have eb : (⟨d.am, d'.ban⟩ : Wd) = d := by rw [e.ban]
  have later : ∀ {n : Nat} {a : Addr}, d'.am[n]? = some a → μ0.length ≤ n → a ∉ d.am := fun {n a} h1 hm z => by
    obtain ⟨j, hj, ej⟩ := List.getElem_of_mem z
    have h2 : d'.am[j]? = some a := e.at (by rw [List.getElem?_eq_getElem hj, ej])
    obtain ⟨l1, z1⟩ := List.getElem?_eq_some_iff.mp h1
    obtain ⟨l2, z2⟩ := List.getElem?_eq_some_iff.mp h2
    have := (List.getElem_inj w.nd).mp (z1.trans z2.symm)
    have h4 := w0.len
    omega
  cases h with
  | keep => exact ⟨d', e, w, r⟩
  | drop g hg hn =>
    subst hg
    obtain ⟨e1, w1⟩ := WOk.back e w0 w
    have := RV.fewer (am := d.am) (fun b hb => e.mem hb) r hn
    rw [eb] at this
    exact ⟨d, e1, w1, this⟩
  | froz n g xs hx hg hm hn hr =>
    subst hg; subst hx
    obtain ⟨e1, w1⟩ := WOk.back e w0 w
    cases r with
    | @mr _ a h1 =>
      obtain ⟨vs, q, rv⟩ := w.obj h1 hm
      have := RVs.fewer (am := d.am) (fun b hb => e.mem hb) rv hr
      rw [eb] at this
      exact ⟨d, e1, w1, .lst ⟨q, later h1 hn, fun z => (w.ban a (by rw [e.ban]; exact z)).2 (List.mem_of_getElem? h1)⟩ this⟩
  | newl n g xs hx hg hm hn hr =>
    subst hg; subst hx
    obtain ⟨e1, w1⟩ := WOk.back e w0 w
    cases r with
    | @mr _ a h1 =>
      obtain ⟨vs, q, rv⟩ := w.obj h1 hm
      have hna : a ∉ d.am := later h1 hn
      have hae : a ∈ ex := by
        have := List.mem_of_getElem? h1
        rw [ha] at this
        exact (List.mem_append.mp this).resolve_left hna
      have hHa := (hf a hae).1
      have sub : ∀ b, b ∈ d.am ++ [a] → b ∈ d'.am := fun b hb => by
        rcases List.mem_append.mp hb with z | z
        · exact e.mem z
        · rw [List.mem_singleton.mp z]; exact List.mem_of_getElem? h1
      have rs : RVs K ⟨d.am ++ [a], d.ban⟩ H' xs vs := by
        have := RVs.fewer (am := d.am ++ [a]) sub rv hr
        rw [e.ban] at this
        exact this
      refine ⟨⟨d.am ++ [a], d.ban⟩, ⟨⟨[a], rfl, fun p hp => by
        have e := List.mem_singleton.mp hp
        subst e; exact ⟨hHa, hna⟩⟩, rfl, e1.keep⟩, ⟨by simp [w0.len], ?_, fun i b m h2 h3 => ?_, fun b hb' => ?_⟩, .mr ?_⟩
      · show (d.am ++ [a]).Nodup
        rw [List.nodup_append]
        exact ⟨w0.nd, by simp, fun x hx y hy => by
          have := List.mem_singleton.mp hy
          subst this; rintro rfl; exact hna hx⟩
      · replace h2 : (d.am ++ [a])[i]? = some b := h2
        by_cases hi : i < d.am.length
        · rw [List.getElem?_append_left hi] at h2
          have hi' : i < μ0.length := by rw [← w0.len]; exact hi
          rw [List.getElem?_append_left hi'] at h3
          have h4 : (μ0 ++ g)[i]? = some m := by rw [List.getElem?_append_left hi']; exact h3
          have := MOK.back (am := d.am) (bn := d.ban) (am2 := d.am ++ [a]) sub (fun n b q => ⟨by rw [List.getElem?_append_left (List.getElem?_eq_some_iff.mp q).1]; exact q, e.at q⟩) (w0.ob i b m h2 h3) (w.ob i b m (e.at h2) h4)
          rw [e.ban] at this
          exact this
        · have hi2 : i = d.am.length := by
            have := (List.getElem?_eq_some_iff.mp h2).1
            simp at this; omega
          subst hi2
          rw [List.getElem?_append_right (Nat.le_refl _)] at h2
          rw [w0.len, List.getElem?_append_right (Nat.le_refl _)] at h3
          simp at h2 h3
          subst h2; subst h3
          exact ⟨vs, q, rs⟩
      · obtain ⟨q1, q2⟩ := w.ban b (by rw [e.ban]; exact hb')
        exact ⟨q1, fun z => q2 (sub b z)⟩
      · show (d.am ++ [a])[μ0.length]? = some a
        rw [← w0.len, List.getElem?_append_right (Nat.le_refl _)]
        simp
  | newd n g kvs hx hg hm hn hr =>
    subst hg; subst hx
    obtain ⟨e1, w1⟩ := WOk.back e w0 w
    cases r with
    | @mr _ a h1 =>
      obtain ⟨vs, q, rk, rv⟩ := w.obj h1 hm
      have hna : a ∉ d.am := later h1 hn
      have hae : a ∈ ex := by
        have := List.mem_of_getElem? h1
        rw [ha] at this
        exact (List.mem_append.mp this).resolve_left hna
      have hHa := (hf a hae).1
      have sub : ∀ b, b ∈ d.am ++ [a] → b ∈ d'.am := fun b hb => by
        rcases List.mem_append.mp hb with z | z
        · exact e.mem z
        · rw [List.mem_singleton.mp z]; exact List.mem_of_getElem? h1
      have rs : RVs K ⟨d.am ++ [a], d.ban⟩ H' (kvs.map (·.2)) (vs.map (·.2)) := by
        have := RVs.fewer (am := d.am ++ [a]) sub rv hr
        rw [e.ban] at this
        exact this
      refine ⟨⟨d.am ++ [a], d.ban⟩, ⟨⟨[a], rfl, fun p hp => by
        have e := List.mem_singleton.mp hp
        subst e; exact ⟨hHa, hna⟩⟩, rfl, e1.keep⟩, ⟨by simp [w0.len], ?_, fun i b m h2 h3 => ?_, fun b hb' => ?_⟩, .mr ?_⟩
      · show (d.am ++ [a]).Nodup
        rw [List.nodup_append]
        exact ⟨w0.nd, by simp, fun x hx y hy => by
          have := List.mem_singleton.mp hy
          subst this; rintro rfl; exact hna hx⟩
      · replace h2 : (d.am ++ [a])[i]? = some b := h2
        by_cases hi : i < d.am.length
        · rw [List.getElem?_append_left hi] at h2
          have hi' : i < μ0.length := by rw [← w0.len]; exact hi
          rw [List.getElem?_append_left hi'] at h3
          have h4 : (μ0 ++ g)[i]? = some m := by rw [List.getElem?_append_left hi']; exact h3
          have := MOK.back (am := d.am) (bn := d.ban) (am2 := d.am ++ [a]) sub (fun n b q => ⟨by rw [List.getElem?_append_left (List.getElem?_eq_some_iff.mp q).1]; exact q, e.at q⟩) (w0.ob i b m h2 h3) (w.ob i b m (e.at h2) h4)
          rw [e.ban] at this
          exact this
        · have hi2 : i = d.am.length := by
            have := (List.getElem?_eq_some_iff.mp h2).1
            simp at this; omega
          subst hi2
          rw [List.getElem?_append_right (Nat.le_refl _)] at h2
          rw [w0.len, List.getElem?_append_right (Nat.le_refl _)] at h3
          simp at h2 h3
          subst h2; subst h3
          exact ⟨vs, q, rk, rs⟩
      · obtain ⟨q1, q2⟩ := w.ban b (by rw [e.ban]; exact hb')
        exact ⟨q1, fun z => q2 (sub b z)⟩
      · show (d.am ++ [a])[μ0.length]? = some a
        rw [← w0.len, List.getElem?_append_right (Nat.le_refl _)]
        simp
  | froz2 n g ks yss hx hg hm hn hl hk =>
    subst hg; subst hx
    obtain ⟨e1, w1⟩ := WOk.back e w0 w
    cases r with
    | @mr _ a h1 =>
      obtain ⟨vs, q, rv⟩ := w.obj h1 hm
      have nb : ∀ {n : Nat} {a : Addr}, d'.am[n]? = some a → a ∉ d.ban := fun {n a} h z => (w.ban a (by rw [e.ban]; exact z)).2 (List.mem_of_getElem? h)
      have go : ∀ (ks : List Nat) (yss : List (List PV)) (vs : List V), ks.length = yss.length → (∀ (i k : Nat) (ys : List PV), ks[i]? = some k → yss[i]? = some ys → (μ0 ++ g)[k]? = some (.lst ys) ∧ μ0.length ≤ k ∧ noRefs ys = true) →
          RVs K d' H' (ks.map .mr) vs → RVs K d H' (yss.map .lst) vs := by
        intro ks
        induction ks with
        | nil =>
          intro yss vs hl hk rv
          cases yss with
          | nil => cases rv; exact .nil
          | cons y r => simp at hl
        | cons k ks ih =>
          intro yss vs hl hk rv
          cases yss with
          | nil => simp at hl
          | cons ys yss =>
            cases rv with
            | cons r1 rv =>
              refine .cons ?_ (ih yss _ (by simpa using hl) (fun i k ys h2 h3 => hk (i + 1) k ys (by simpa using h2) (by simpa using h3)) rv)
              cases r1 with
              | @mr _ b h2 =>
                obtain ⟨z1, z2, z3⟩ := hk 0 k ys rfl rfl
                obtain ⟨us, q2, ru⟩ := w.obj h2 z1
                have := RVs.fewer (am := d.am) (fun b hb => e.mem hb) ru z3
                rw [eb] at this
                exact .lst ⟨q2, later h2 z2, nb h2⟩ this
      exact ⟨d, e1, w1, .lst ⟨q, later h1 hn, nb h1⟩ (go ks yss vs hl hk rv)⟩
end
def startP (N : List Str) (xs : List PV) : PEnv := xs.map some ++ List.replicate (N.length - xs.length) none
theorem start_env {K : PySem.W.Frag} {d : Wd} {H : Hp} {N : List Str} {xs : List PV} {vs : List V} (r : RVs K d H xs vs) : REnv K d H (startP N xs) (L2.start N vs) := by
  unfold startP L2.start
  refine ⟨by simp [r.length], fun i x h => ?_⟩
  by_cases hi : i < xs.length
  · rw [List.getElem?_append_left (by simpa using hi), List.getElem?_map] at h
    rw [List.getElem?_append_left (by simpa [← r.length] using hi), List.getElem?_map]
    cases e : xs[i]? with
    | none => rw [e] at h; cases h
    | some y =>
      rw [e] at h; simp at h; subst h
      obtain ⟨v, e2, rv⟩ := r.get e
      exact ⟨v, by rw [e2]; rfl, rv⟩
  · rw [List.getElem?_append_right (by simpa using hi), List.getElem?_replicate] at h
    split at h <;> cases h
def mEnd (μ0 : Store) (Q : PV → Store → Prop) : MEnds := { nx := fun _ μ => ∃ y μ', Gc μ0 .non μ y μ' ∧ Q y μ', rt := fun x μ => ∃ y μ', Gc μ0 x μ y μ' ∧ Q y μ' }
theorem FnG.of {P : Program} {w : World} {K : PySem.W.Frag} {mg : Str → Option Value} {base : Heap} {x qual : Str} {st : Stmt} {f : Addr} {fd : FuncData} {N ps : List Str} {k : Nat} {S : PSp} (F : Fun K x qual st f fd) (sc : FnScope N ps (defScope st))
    (len : ∀ xs μ Q, S xs μ Q → xs.length = ps.length)
    (hbody : ∀ (cdv : Value) (A : Around) (outer : List Env) (s : Shared) (H : Hp), Room k (A.deeper (envOfC qual (defScope st) s.heap.objs.size f cdv)) → A.guards = some [] →
      ∃ t m, PSs (cxOf CX0 P w K mg base N qual (defScope st) f cdv A outer s H E0).nox (defBody st) t ∧ FS K t m ∧ ∀ xs μ Q, S xs μ Q → m (mEnd μ Q) (startP N xs) μ) : FnG P w K mg base (k + 1) f fd ps S := by
  obtain ⟨oc, od, kV, doc, pm, an, cdv, ct, osl, rfl, lk, hcd⟩ := F.ex
  refine ⟨len, fun A outer s H args us vs xs d μ Q hr hgd e0 hb hv wk rx hS => ?_⟩
  have hl : vs.length = ps.length := by rw [← rx.length]; exact len _ _ _ hS
  have kp := fun b o e => (e0.bs b o e).1
  have KX : K.In s.heap := e0.mod.kin.keeps kp
  refine codeAny_call_function hr.depth (KX _ _ lk) rfl sc.co sc.gen rfl (PySem.W.codeRec_of KX hcd) (hb _ _ _ _ ?_)
  refine wpAny_newFunctionEnv_cells sc.kind (fun p hp => ?_) fun env he s1 en => ?_
  · obtain ⟨n, u⟩ := p
    exact (sc.par n (List.of_mem_zip hp).1).imp id fun q => ⟨q, PySem.W.cellsFrom_some _ _ _ (.inl q)⟩
  subst he
  obtain ⟨t, m, hP, hF, hM⟩ := hbody cdv A outer s H (hr.deeper _) hgd
  have I := (inv_start (CX := CX0) (qual := qual) (f := f) (cd := cdv) (A := A) (outer := outer) (E := E0) sc hr.hd e0 hl hv en).wish (fun _ _ => False)
  have reading := hF.run d (L2.start N vs) H (startP N xs) μ (mEnd μ Q) { nx := fun _ H' => QvOf K d H Q .non H', rt := QvOf K d H Q } wk (start_env rx) (hM xs μ Q hS)
    ⟨fun d' σ' H' ρ' μ' e' w' _ ⟨y, μ2, g, q⟩ => by
        obtain ⟨d2, a1, a2, a3⟩ := g.ok e' wk w' .non
        exact ⟨d2, y, μ2, a1, a2, a3, q⟩,
     fun d' H' μ' z v e' w' r ⟨y, μ2, g, q⟩ => by
        obtain ⟨d2, a1, a2, a3⟩ := g.ok e' wk w' r
        exact ⟨d2, y, μ2, a1, a2, a3, q⟩,
     fun _ _ _ _ _ _ _ _ q => q.elim, fun _ _ _ _ _ _ _ _ q => q.elim⟩
  refine ⟨e0.mod.nolimit.keeps (fun b o z => en.toInCall.keep b o (kp b o z)), codeAny_func (wpAny_mono (hP.run [] s1 (L2.start N vs) H _ I reading) (fun fl s' hs => ?_) fun _ _ z => z.elim)⟩
  match fl, hs with
  | .ret u, ⟨v, σ', H', J, rv, q⟩ => exact ⟨v, H', J.os, J.bare, J.base, J.hok, rv, q⟩
  | .next, ⟨σ', H', J, q⟩ => exact ⟨.non, H', J.os, J.bare, J.base, J.hok, rfl, q⟩
  | .brk, ⟨_, _, _, q⟩ => exact q.elim
  | .cont, ⟨_, _, _, q⟩ => exact q.elim
end Fx
namespace Fx
open PySem PySem.Spec PyProof.Rows L2 RZ
theorem law_go {P : Program} {w : World} {K : PySem.W.Frag} {mg mb : Str → Option Value} {k : Nat} {fa a : Addr} {fd : FuncData} {x : Str} {S : PSp} {s₁ : Shared} {us : List Value} {ns : List Int}
    (hK : K.In s₁.heap) (gl : s₁.heap.Ns mainGlobals mg) (bl : s₁.heap.Ns builtinsNs mb) (bb : ∀ y : Str, y ≠ "__name__" → mb y = bootBuiltins y) (nl : s₁.heap.NoLimit) (gn : s₁.gens = #[])
    (ob : s₁.heap.get? a = some { cls := .type "list", data := .seq us.toArray }) (is : IntsAre us ns) (sz : ns.length ≤ sizeLine) (room : Room k callerA)
    (F : ∀ base : Heap, K.In base → base.Ns mainGlobals mg → FnG P w K mg base k fa fd [x] S) (bind : ∀ (s : Shared) (u : Value), BindsTo s fd ⟨[u], []⟩ [(x, u)])
    (hS : S [.kl (ns.map PV.int)] [] (fun v _ => v = .bl true)) :
    codeAny (model P w) callerA (.call (.ref fa) ⟨[.ref a], []⟩) (fun r s' => r = .ok (.ret (.bool true)) ∧ OldK s₁.heap s'.heap ∧ s'.os = s₁.os ∧ AllBare s'.gens) s₁ := by
  have vals := vals_ints is
  have lens := is.length
  suffices core : ∀ H : Hp, Only H → SqL K H a (ns.map V.int) → HOk P w H s₁.heap → (∀ b, H b ≠ none → b = a ∧ K.lookup a = none) →
      codeAny (model P w) callerA (.call (.ref fa) ⟨[.ref a], []⟩) (fun r s' => r = .ok (.ret (.bool true)) ∧ OldK s₁.heap s'.heap ∧ s'.os = s₁.os ∧ AllBare s'.gens) s₁ by
    cases hk : K.lookup a with
    | some o =>
      have e := hK a o hk
      rw [ob] at e
      cases e
      exact core hp0 (fun _ => .inl rfl) (.inr ⟨_, us.toArray, _, hk, rfl, rfl, rfl, by rw [List.size_toArray, lens]; exact sz, by simpa using vals⟩) (fun b u z => by cases z) fun b z => absurd rfl z
    | none =>
      have there : HOk P w (upd hp0 a (.frz { cls := .type "list", data := .seq us.toArray } (.lst (ns.map V.int)))) s₁.heap := fun b u z => by
        by_cases hb : b = a
        · subst hb
          rw [upd_same] at z; cases z
          exact ⟨ob, by rw [List.length_map]; exact sz, us, _, vals, ob⟩
        · rw [upd_ne hb] at z; cases z
      refine core _ (fun b => ?_) (.inl (.inr ⟨_, upd_same⟩)) there fun b z => ?_
      · by_cases hb : b = a
        · subst hb; exact .inr ⟨_, _, upd_same⟩
        · exact .inl (upd_ne hb)
      · by_cases hb : b = a
        · exact ⟨hb, hk⟩
        · exact absurd (upd_ne hb) z
  intro H only sq hok away
  have plainB : ∀ {b : Addr} {o : Obj}, s₁.heap.get? b = some o → H b = none → (hidT s₁.heap H).get? b = some o := fun e n => hidT_get e n
  have dictB : ∀ {b : Addr} {o : Obj} {es : Array DictEntry} {ep : Nat}, s₁.heap.get? b = some o → o.data = .dict es ep → H b = none := fun {b o es ep} e dd => by
    cases q : H b with
    | none => rfl
    | some u =>
      obtain ⟨z, _⟩ := away b (by rw [q]; simp)
      subst z
      rw [ob] at e; cases e
      exact nomatch (show Data.seq us.toArray _ = Data.dict es ep from dd)
  have nsB : ∀ {b : Addr} {m : Str → Option Value}, s₁.heap.Ns b m → (hidT s₁.heap H).Ns b m := fun ⟨o, es, ep, e, dd, r⟩ => ⟨o, es, ep, plainB e (dictB e dd), dd, r⟩
  have inB : K.In (hidT s₁.heap H) := fun b o e => plainB (hK b o e) (by
    cases q : H b with
    | none => rfl
    | some u =>
      obtain ⟨z, z2⟩ := away b (by rw [q]; simp)
      subst z
      rw [z2] at e; cases e)
  have md : Mod K mg (hidT s₁.heap H) := ⟨inB, nsB gl, ⟨mb, nsB bl, bb⟩, let ⟨mc, h1, h2⟩ := nl; ⟨mc, nsB h1, h2⟩⟩
  have none_in : ∀ b, b ∉ frs ([] : List Env) := fun b z => by cases z
  have env : Env0 P w K mg (hidT s₁.heap H) callerA [] s₁ H := ⟨rfl, md, fun b o e => of_hidT e, Nat.le_of_eq (hidT_size _ _), trivial, fun b hb => absurd hb (none_in b), hok, .of_eq gn⟩
  have wk : WOk K ⟨[], []⟩ H [] := ⟨rfl, List.nodup_nil, fun i b m h _ => by simp at h, fun b hb => by cases hb⟩
  have kl : RV K ⟨[], []⟩ H (.kl (ns.map PV.int)) (.ref a) := by
    refine .kl ?_ (RVs.of_ints ns)
    rcases sq with sq | sq
    · exact .inl ⟨sq, (fun z => by cases z), (fun z => by cases z)⟩
    · exact .inr (.inr sq)
  refine codeAny_mono ((F _ inB (nsB gl)).run callerA [] s₁ H ⟨[.ref a], []⟩ [.ref a] [.ref a] [.kl (ns.map PV.int)] ⟨[], []⟩ [] _ room rfl env (bind s₁ (.ref a)) (.cons rfl .nil) wk (.cons kl .nil) hS) fun r s' h => ?_
  match r, h with
  | .ok (.ret u), ⟨v, H', os, bare, un, hok', rv, d', x, μ', _, _, rx, ex⟩ =>
    subst ex
    cases rx
    obtain rfl : u = Value.bool true := rv
    refine ⟨rfl, OldK.of_keep fun b o e => ?_, os, bare⟩
    rcases only b with z | ⟨ob', ys, z⟩
    · exact un.keep b o e z (none_in b) (by simp)
    · obtain ⟨e1, _⟩ := hok b _ z
      obtain ⟨e2, _⟩ := hok' b _ (un.frzs b ob' _ z)
      rw [e] at e1; cases e1
      exact e2
  | .ok .next, h => exact h.elim
  | .ok .brk, h => exact h.elim
  | .ok .cont, h => exact h.elim
  | .error _, h => exact h.elim
def lawS (n : Nat) : PSp := fun xs μ0 Q => μ0 = [] ∧ ∃ ns : List Int, xs = [.kl (ns.map PV.int)] ∧ ns.length ≤ n ∧ ∀ μ, Q (.bl true) μ
theorem walk_law {l : PySem.W.OpenLaw} {n k : Nat} {q : Program} {loose : List Str} {XP : (Str → Option Value) → Heap → Prop} {YP : World → Heap → Prop} {d : DefRec} {K : Params → PySem.W.Frag} {x : Str}
    (hn : l.most = some n) (small : n ≤ sizeLine) (nodef : d.params.defaults = []) (room : Room k callerA) (hY : ∀ (w : World) (h : Heap), YP w h → (K w.params).In h)
    (F : ∀ (w : World) (mg : Str → Option Value) (fa : Addr) (h : Heap), (K w.params).In h → h.Ns mainGlobals mg → mg d.name = some (.ref fa) →
      ∃ fd : FuncData, (∀ (s : Shared) (u : Value), BindsTo s fd ⟨[u], []⟩ [(x, u)]) ∧ ∀ base : Heap, (K w.params).In base → base.Ns mainGlobals mg → FnG l.prog w (K w.params) mg base k fa fd [x] (lawS n)) :
    PySem.W.WalkO q loose XP YP l.row.toRowW d [] (fun f vs => PySem.call f vs) := by
  refine Att.attach_call hn nodef fun w s₀ s₁ mg mb fa o pm cd doc a us ns G Y ho hd hcd hmg hobj hints hlen hg => ?_
  obtain ⟨fd, hb, hF⟩ := F w mg fa _ (hY w _ Y) G.T.g hmg
  exact law_go (hY w _ Y) G.T.g G.T.b G.T.builtins G.T.nolimit hg hobj hints (Nat.le_trans hlen small) room hF hb ⟨rfl, ns, rfl, hlen, fun _ => rfl⟩
end Fx
namespace Fx
open PySem PySem.Spec PyProof.Rows L2 RZ
theorem tup_mul_one (l : Addr) (items : Array Value) (n : Nat) (dd : Option Addr) (sl : Array (Option Value)) (u : Tok) :
    Meets (Builtin.«tuple.__mul__» ⟨[.ref l, .int 1 u], []⟩) (fun _ R s => s.heap.get? l = some { cls := .type "tuple", dict := dd, data := .seq items n, slots := sl } ∧ R (.ok (.ret (Value.ref l))) s) :=
  .of_wp fun prog w A R s h => by
    obtain ⟨hp, g, d, tk, os⟩ := s
    obtain ⟨hl, h⟩ := h
    have ix := AutoSeq1.idx_int
    wp_walk using wpAny_loadPart' hl
    repeat (first
      | (refine wpAny_ite_false (by decide) ?_; wp_walk using wpAny_loadPart' hl)
      | (refine wpAny_ite_true (by simp) ?_; wp_walk using wpAny_loadPart' hl))
    exact ⟨_, rfl, h⟩
theorem tup_mul_none (l : Addr) (items : Array Value) (n : Nat) (dd : Option Addr) (sl : Array (Option Value)) (x : Int) (u : Tok) (h0 : (decide (x < -(2 ^ 63)) || decide (x ≥ 2 ^ 63)) = false) (h1 : (items.isEmpty || x == 1) = false) (h2 : (decide (x ≤ 0) || items.isEmpty) = true) :
    Meets (Builtin.«tuple.__mul__» ⟨[.ref l, .int x u], []⟩) (fun _ R s => s.heap.get? l = some { cls := .type "tuple", dict := dd, data := .seq items n, slots := sl } ∧
      R (.ok (.ret (Value.ref s.heap.objs.size))) { s with heap := s.heap.push { cls := Value.type "tuple", data := Data.seq #[] }, toks := s.toks }) :=
  .of_wp fun prog w A R s h => by
    obtain ⟨hp, g, d, tk, os⟩ := s
    obtain ⟨hl, h⟩ := h
    have ix := AutoSeq1.idx_int
    wp_walk using wpAny_loadPart' hl
    repeat (first
      | (refine wpAny_ite_false (decide_eq_false (by rw [h0]; exact Bool.false_ne_true)) ?_; wp_walk using wpAny_loadPart' hl)
      | (refine wpAny_ite_false (decide_eq_false (by rw [h1]; exact Bool.false_ne_true)) ?_; wp_walk using wpAny_loadPart' hl)
      | (refine wpAny_ite_true (decide_eq_true h2) ?_; wp_walk using wpAny_loadPart' hl))
    exact ⟨_, rfl, h⟩
def rRepX (K : PySem.W.Frag) : R2 := fun x y H Q => ∃ l k xs, x = .ref l ∧ y = .int k ∧ SqT K H l xs ∧ xs ≠ [] ∧ -1000 ≤ k ∧ k ≤ 1000 ∧ xs.length ≤ 1000 ∧ (k = 1 → Q (.ref l) H) ∧ (k ≠ 1 → ∀ p, H p = none → Q (.ref p) (upd H p (.tup (List.replicate k.toNat xs).flatten)))
theorem op_repX {X : Cx} : OpR X (binaryOp .Mult) (rRepX X.K) := by
  intro pins s σ H x y v u Q I rx ry h
  obtain ⟨l, k, xs, rfl, rfl, hT, hne, hk0, hk1, hz, q1, q⟩ := h
  by_cases h2 : 2 ≤ k
  · exact op_repT pins s σ H _ _ v u Q I rx ry ⟨l, k, xs, rfl, rfl, hT, hne, h2, hk1, hz, q (by omega)⟩
  cases rx
  obtain ⟨t, rfl⟩ := ry
  obtain ⟨its, r, ⟨⟨cls, dd, data, sl⟩, ho, hc, n, hd⟩, hs⟩ := I.tuple hT
  simp only at hc hd
  subst hc hd
  have hn : its ≠ [] := fun e => hne (by
    have := r.length
    rw [e] at this
    exact List.eq_nil_of_length_eq_zero this)
  have hi : its.toArray.isEmpty = false := by
    cases its with
    | nil => exact absurd rfl hn
    | cons a b => rfl
  by_cases h1 : k = 1
  · subst h1
    refine wpAny_binaryOp_repeat_ref (T := "tuple") (U := "int") (by decide) ⟨_, ho, rfl⟩ (fun s' => typeIs_int s' 1 t) noFill_tuple_mul F.fills_int_mul F.slot_int_rmul repeat_tuple F.slot_int_index.lookup
      (call_meets F.slot_int_rmul (typeIs_int s 1 t) F.entry_int_rmul (F.args_int_rmul_2 _ _) (int_rmul_tuple 1 t l its.toArray n dd sl)
        ⟨ho, rfl, ⟨_, ho, rfl⟩, call_meets F.slot_tuple_mul ⟨_, ho, rfl⟩ F.entry_tuple_mul (F.args_tuple_mul_2 _ _) (tup_mul_one l its.toArray n dd sl t) ⟨ho, ?_⟩⟩)
    exact ⟨.ref l, H, I, rfl, q1 rfl⟩
  · have c0 : (decide (k < -(2 ^ 63)) || decide (k ≥ 2 ^ 63)) = false := by
      rw [decide_eq_false (by omega), decide_eq_false (by omega)] <;> rfl
    have c1 : (its.toArray.isEmpty || k == 1) = false := by
      rw [hi, Bool.false_or]
      exact beq_eq_false_iff_ne.mpr h1
    have c2 : (decide (k ≤ 0) || its.toArray.isEmpty) = true := by
      rw [decide_eq_true (by omega)]; rfl
    refine wpAny_binaryOp_repeat_ref (T := "tuple") (U := "int") (by decide) ⟨_, ho, rfl⟩ (fun s' => typeIs_int s' k t) noFill_tuple_mul F.fills_int_mul F.slot_int_rmul repeat_tuple F.slot_int_index.lookup
      (call_meets F.slot_int_rmul (typeIs_int s k t) F.entry_int_rmul (F.args_int_rmul_2 _ _) (int_rmul_tuple k t l its.toArray n dd sl)
        ⟨ho, rfl, ⟨_, ho, rfl⟩, call_meets F.slot_tuple_mul ⟨_, ho, rfl⟩ F.entry_tuple_mul (F.args_tuple_mul_2 _ _) (tup_mul_none l its.toArray n dd sl k t c0 c1 c2) ⟨ho, ?_⟩⟩)
    have e0 : (List.replicate k.toNat xs).flatten = [] := by
      have : k.toNat = 0 := by omega
      rw [this]; rfl
    have q' := q h1 _ (I.hok.fresh (Nat.le_refl s.heap.objs.size))
    rw [e0] at q'
    refine ⟨.ref s.heap.objs.size, _, I.laid (t' := s.toks) (o := .tup []) (fun b ob q => Heap.get?_push_of_some _ q) (Nat.le_refl _) ?_, rfl, q'⟩
    exact ⟨Nat.zero_le _, [], .nil, IsTup.new _ _⟩
def rTimes (K : PySem.W.Frag) : R2 := fun x y H Q => rI MulOk (fun i j => .int (i * j)) x y H Q ∨ rRepX K x y H Q
theorem op_times {X : Cx} : OpR X (binaryOp .Mult) (rTimes X.K) := OpR.or op_mulX op_repX
def pTimes : MO2 := fun x y μ P => match x, y with
  | .int i, .int j => MulOk i j ∧ P (.int (i * j)) μ
  | .tup xs, .int k => (xs ≠ [] ∧ -1000 ≤ k ∧ k ≤ 1000 ∧ xs.length ≤ 1000) ∧ P (.tup (List.replicate k.toNat xs).flatten) μ
  | _, _ => False
section
variable {K : PySem.W.Frag} {d d' : Wd} {H H' : Hp} {a b : Addr} {vs us : List V} {xs ys : List PV} {μ : Store}
theorem RVs.rep (r : RVs K d H xs vs) : ∀ n : Nat, RVs K d H (List.replicate n xs).flatten (List.replicate n vs).flatten
  | 0 => .nil
  | n + 1 => by
    rw [List.replicate_succ, List.replicate_succ, List.flatten_cons, List.flatten_cons]
    exact r.append (RVs.rep r n)
instance : F2 K (rTimes K) pTimes := ⟨fun d H μ x y v u P Q w r1 r2 q k => by
  match x, y, r1, r2, q with
  | .int i, .int j, .int _, .int _, ⟨c, q⟩ => exact .inl ⟨i, j, rfl, rfl, c, k d H μ _ _ .refl w (.int _) q⟩
  | .tup xs, .int n, .tup (a := a) (vs := vs) h1 h2, .int _, ⟨⟨z1, z2, z3, z4⟩, q⟩ =>
    refine .inr ⟨a, n, vs, rfl, rfl, h1.sq, ?_, z2, z3, by rw [← h2.length]; exact z4, fun e => ?_, fun e p hp => ?_⟩
    · rintro rfl
      cases h2
      exact z1 rfl
    · subst e
      exact k d H μ _ _ .refl w (.tup h1 h2) (by simpa using q)
    · exact k d _ μ _ _ (Ext.lay w hp) (w.lay hp) (lay_tup w (h2.rep n.toNat) hp) q⟩
theorem op_modX {X : Cx} : OpR X (binaryOp .Mod) (rI (fun _ j => j ≠ 0) fun i j => .int (i.fmod j)) := op_modN
theorem peLM {X : Cx} {e : Expr} {t : TA} (h : PE X e (tLst t)) : PE X e (tLstM t) := h
theorem peRM {X : Cx} {e : Expr} {K : PySem.W.Frag} {t : TE} (h : PE X e (tRevL K t)) : PE X e (tRevLM K t) := h
def names0 : List Str := ["abs", "len", "sum", "all", "any", "isinstance", "repr", "int", "tuple", "list", "bool", "str", "range", "zip", "enumerate", "max", "min", "sorted", "reversed", "set", "dict"]
def Blt (mg : Str → Option Value) : Prop := ∀ x ∈ names0, mg x = none
theorem Blt.mk {mg : Str → Option Value} (B : Blt mg) (x : Str) (h : x ∈ names0) : mg x = none := B x h
structure Own (K : PySem.W.Frag) (mg : Str → Option Value) (x : Str) (st : Stmt) : Prop where
  ex : ∃ f fd, Fun K x x st f fd ∧ mg x = some (.ref f)
structure Ok (P : Program) (w : World) (K : PySem.W.Frag) (mg : Str → Option Value) (base : Heap) (k : Nat) (x : Str) (st : Stmt) (ps : List Str) (S : PSp) : Prop where
  ex : ∃ f fd, Fun K x x st f fd ∧ mg x = some (.ref f) ∧ Binds K fd ps [] ∧ FnG P w K mg base k f fd ps S
theorem kbs_mk {x qual : Str} {st : Stmt} {f : Addr} {fd : FuncData} {ps ks : List Str} {n : Nat} {ix : List Nat} (F : Fun K x qual st f fd)
    (h : ∀ (kV doc pm : Value) (an : Option Addr) (cdv ct : Value) (us ws : List Value), us.length = n → ws.length = ks.length → bindArgs (PySem.W.fnOf x qual (defArgs st) (defBody st) (defScope st) .none kV doc pm an cdv ct) ⟨us, ks.zip ws⟩ = pure (ps.zip (perm ix (us ++ ws)))) : KBs fd ps ks n ix := by
  obtain ⟨oc, od, kV, doc, pm, an, cdv, ct, osl, rfl, lk, hcd⟩ := F.ex
  exact fun s us ws h1 h2 => .of_eq (h kV doc pm an cdv ct us ws h1 h2)
end
end Fx
namespace Fx
open PySem PySem.Spec PyProof.Rows L2 RZ
theorem fin_keep {μ : Store} {x : PV} {Q : PV → Store → Prop} {μ0 : Store} (h : Q x μ) : ∃ y μ', Gc μ0 x μ y μ' ∧ Q y μ' := ⟨x, μ, .keep, h⟩
theorem fin_drop {μ0 g : Store} {x : PV} {Q : PV → Store → Prop} (n : noRef x = true) (h : Q x μ0) : ∃ y μ', Gc μ0 x (μ0 ++ g) y μ' ∧ Q y μ' := ⟨x, μ0, .drop g rfl n, h⟩
section
variable {α β : Type}
theorem atI_zero {x : α} {xs : List α} : L2.atI (x :: xs) 0 = some x := atI_nat (j := 0) rfl
theorem atI_one {x y : α} {xs : List α} : L2.atI (x :: y :: xs) 1 = some y := atI_nat (j := 1) rfl
theorem atI_two {x y z : α} {xs : List α} : L2.atI (x :: y :: z :: xs) 2 = some z := atI_nat (j := 2) rfl
theorem atI_some {xs : List α} {i : Nat} {x : α} (h : xs[i]? = some x) : L2.atI xs (i : Int) = some x := atI_nat h
end
section
variable {α : Type} {g : MG} {c : MT} {e : ME} {ρ0 : PEnv} {P : List PV → Store → Prop} {μ : Store}
theorem lc_map {enc out : α → PV} : ∀ {l : List α} {acc : List PV}, (∀ a ∈ l, ∀ k : PV → Store → Prop, k (out a) μ → g (enc a) ρ0 μ fun ρ1 μ1 => e ρ1 μ1 k) → P (acc ++ l.map out) μ → mLcL g mYes e ρ0 P (l.map enc) acc μ
  | [], acc, _, hP => by simpa [mLcL] using hP
  | a :: l, acc, h, hP => by
    show g (enc a) ρ0 μ fun ρ1 μ1 => e ρ1 μ1 fun y μ3 => mLcL g mYes e ρ0 P (l.map enc) (acc ++ [y]) μ3
    exact h a List.mem_cons_self _ (lc_map (fun b hb => h b (List.mem_cons_of_mem _ hb)) (by simpa using hP))
end
section
variable {α : Type} {g : MG} {b : MS} {P : MEnds}
theorem for_inv {enc : α → PV} (I : List α → PEnv → Store → Prop) : ∀ {l done : List α} {ρ : PEnv} {μ : Store}, I done ρ μ → (∀ pre a post ρ μ, done ++ l = pre ++ a :: post → I pre ρ μ → ∀ N : PEnv → Store → Prop, (∀ ρ μ, I (pre ++ [a]) ρ μ → N ρ μ) →
      g (enc a) ρ μ fun ρ1 μ1 => b { P with nx := N, ct := N, bk := P.nx } ρ1 μ1) → (∀ ρ μ, I (done ++ l) ρ μ → P.nx ρ μ) → mForL g b P (l.map enc) ρ μ
  | [], done, ρ, μ, h0, _, hP => hP ρ μ (by simpa using h0)
  | a :: l, done, ρ, μ, h0, hs, hP => by
    have e1 : done ++ a :: l = (done ++ [a]) ++ l := by simp
    exact hs done a l ρ μ rfl h0 (mForL g b P (l.map enc)) fun ρ μ h => for_inv I (done := done ++ [a]) h (fun pre x post ρ μ e2 => hs pre x post ρ μ (by rw [e1]; exact e2)) fun ρ μ h => hP ρ μ (by rw [e1]; exact h)
end
theorem rangeP_eq (n : Nat) : rangeP 0 n = (List.range n).map fun (i : Nat) => PV.int i := by
  unfold rangeP
  simp
end Fx
namespace Fx
open PySem PySem.Spec PyProof.Rows L2 RZ
def enumP : Nat → List PV → List PV
  | _, [] => []
  | i, x :: xs => .tup [.int i, x] :: enumP (i + 1) xs
section
variable {K : PySem.W.Frag} {d d' : Wd} {H H' : Hp} {a b : Addr} {vs us : List V} {xs ys : List PV} {μ : Store}
def mEnum (m : MA) : MI := fun ρ μ P => m ρ μ fun xs μ1 => match xs with | [.tup ys] => P (enumP 0 ys) μ1 | [.lst ys] => P (enumP 0 ys) μ1 | [.kl ys] => P (enumP 0 ys) μ1 | _ => False
def ItW (K : PySem.W.Frag) (J : It) (xs : List PV) (Iv : Wd → Hp → Prop) : Prop :=
  (∀ d H d2 H2, Iv d H → Ext d H d2 H2 → Iv d2 H2) ∧ (∀ d H D l l', Iv d H → D ∈ d.ban → H D = some (.lst l) → Iv d (upd H D (.lst l'))) ∧
  ∀ d H μ, Iv d H → WOk K d H μ → (∀ (i : Nat) x, xs[i]? = some x → J.go i H ∧ ∀ v H', J.yld i H v H' → Ext d H d H' ∧ WOk K d H' μ ∧ RV K d H' x v) ∧ (∀ i, xs.length ≤ i → J.stop i H)
class FW (K : PySem.W.Frag) (t : TI) (m : outParam MI) : Prop where
  run : ∀ (d : Wd) (σ : L2.St) (H : Hp) (ρ : PEnv) (μ : Store) (P : List PV → Store → Prop) (R : It → Hp → Prop), WOk K d H μ → REnv K d H ρ σ → m ρ μ P →
    (∀ d' H' μ' J xs Iv, Ext d H d' H' → WOk K d' H' μ' → ItW K J xs Iv → Iv d' H' → P xs μ' → R J H') → t σ H R
theorem TupAt.made {D : Addr} {l l' : List V} (h : TupAt K d H a vs) (hD : H D = some (.lst l)) : TupAt K d (upd H D (.lst l')) a vs := by
  rcases h with ⟨r, n⟩ | h
  · have ne : a ≠ D := by
      rintro rfl
      rcases r with r | ⟨o, r⟩ <;> rw [hD] at r <;> cases r
    refine .inl ⟨?_, n⟩
    rcases r with r | ⟨o, r⟩
    · exact .inl (by rw [upd_ne ne]; exact r)
    · exact .inr ⟨o, by rw [upd_ne ne]; exact r⟩
  · exact .inr h
theorem KlAt.made {D : Addr} {l l' : List V} (h : KlAt K d H a vs) (hb : D ∈ d.ban) : KlAt K d (upd H D (.lst l')) a vs := by
  rcases h with ⟨r, n, b⟩ | h
  · have ne : a ≠ D := by
      rintro rfl
      exact b hb
    refine .inl ⟨?_, n, b⟩
    rcases r with r | ⟨o, r⟩
    · exact .inl (by rw [upd_ne ne]; exact r)
    · exact .inr ⟨o, by rw [upd_ne ne]; exact r⟩
  · exact .inr h
theorem itw_tup : ItW K (Itt K a) xs fun d H => ∃ vs, TupAt K d H a vs ∧ RVs K d H xs vs := by
  refine ⟨fun d H d2 H2 ⟨vs, h, r⟩ e => ⟨vs, e.tupAt h, r.mono e⟩, fun d H D l l' ⟨vs, h, r⟩ hb hD => ⟨vs, h.made hD, r.made hb (no_tup hD)⟩, fun d H μ ⟨vs, h, r⟩ w => ?_⟩
  exact it_tup h r d d H μ ⟨rfl, fun _ h => .inl h⟩ .refl w
theorem itw_kl : ItW K (Itl K a) xs fun d H => ∃ vs, KlAt K d H a vs ∧ RVs K d H xs vs := by
  refine ⟨fun d H d2 H2 ⟨vs, h, r⟩ e => ⟨vs, e.klAt h, r.mono e⟩, fun d H D l l' ⟨vs, h, r⟩ hb hD => ⟨vs, h.made hb (l := l), r.made hb (no_tup hD)⟩, fun d H μ ⟨vs, h, r⟩ w => ?_⟩
  exact it_kl h r d d H μ ⟨rfl, fun _ h => .inl h⟩ .refl w
instance {t m} [h : FE K t m] : FW K (iSeq K t) (mSeqI m) := ⟨fun d σ H ρ μ P R w e q k => by
  refine h.run d σ H ρ μ _ _ w e q fun d1 H1 μ1 x v e1 w1 r1 q1 => ?_
  cases x <;> try exact q1.elim
  · cases r1 with
    | tup ha hr => exact ⟨_, rfl, .inr ⟨⟨_, ha.sq⟩, k d1 H1 μ1 _ _ _ e1 w1 itw_tup ⟨_, ha, hr⟩ q1⟩⟩
  · cases r1 with
    | lst ha hr => exact ⟨_, rfl, .inl ⟨⟨_, ha.sq⟩, k d1 H1 μ1 _ _ _ e1 w1 itw_kl ⟨_, .inl ⟨.inl ha.1, ha.2⟩, hr⟩ q1⟩⟩
  · cases r1 with
    | kl ha hr => exact ⟨_, rfl, .inl ⟨⟨_, ha.sq⟩, k d1 H1 μ1 _ _ _ e1 w1 itw_kl ⟨_, ha, hr⟩ q1⟩⟩⟩
instance {t m} [h : FA K t m] : FW K (iRng1 t) (mRng1 m) := ⟨fun d σ H ρ μ P R w e q k => by
  refine h.run d σ H ρ μ _ _ w e q fun d1 H1 μ1 xs vs e1 w1 r1 q1 => ?_
  match xs, r1, q1 with
  | [.int j], .cons (.int _) .nil, ⟨z, q1⟩ =>
    exact ⟨j, rfl, by omega, by omega, k d1 H1 μ1 _ _ (fun _ _ => True) e1 w1 ⟨fun _ _ _ _ _ _ => trivial, fun _ _ _ _ _ _ _ _ => trivial, fun d H μ _ w => it_rng 0 j.toNat d d H μ ⟨rfl, fun _ h => .inl h⟩ .refl w⟩ trivial q1⟩⟩
def mLcO (g : MG) (c : MT) (i1 : MI) (g1 : MG) (c1 : MT) (e : ME) (vs1 : List Nat) (ρ0 : PEnv) (P : List PV → Store → Prop) : List PV → List PV → Store → Prop
  | [], acc, μ => P acc μ
  | x :: xs, acc, μ => g x ρ0 μ fun ρ1 μ1 => c ρ1 μ1 fun b μ2 => if b = true then i1 ρ1 μ2 fun ys μ3 => (acc.length + ys.length ≤ lim ∧ mLcL g1 c1 e (wipeP ρ1 vs1) (fun acc' μ4 => mLcO g c i1 g1 c1 e vs1 ρ0 P xs acc' μ4) ys acc μ3) else mLcO g c i1 g1 c1 e vs1 ρ0 P xs acc μ2
def mLc2 (mi : MI) (g : MG) (c : MT) (i1 : MI) (g1 : MG) (c1 : MT) (e : ME) (s vs s1 vs1 : List Nat) : ME := fun ρ μ P => ((∀ i ∈ s, i ∈ vs) ∧ ∀ i ∈ s1, i ∈ vs1) ∧ mi ρ μ fun xs μ1 => mLcO g c i1 g1 c1 e vs1 (wipeP ρ vs) (fun acc μ2 => P (.lst acc) μ2) xs [] μ1
instance {wi mi g mg s tt mt wi1 mi1 g1 mg1 s1 tt1 mt1 te me vs vs1} [hi : FI K wi mi] [hg : FG K g mg s] [hc : FT K tt mt] [hi1 : FW K wi1 mi1] [hg1 : FG K g1 mg1 s1] [hc1 : FT K tt1 mt1] [he : FE K te me] :
    FE K (tLc2 wi g tt wi1 g1 tt1 te vs vs1) (mLc2 mi mg mt mi1 mg1 mt1 me s vs s1 vs1) := ⟨fun d σ H ρ μ P Q w e q k => by
  obtain ⟨⟨hs, hs1⟩, q⟩ := q
  refine hi.run d σ H ρ μ _ _ w e q fun d1 H1 μ1 J xs e1 w1 it q1 => ?_
  intro D hD
  have bD : Bars d1 ⟨d1.am, D :: d1.ban⟩ H1 := ⟨rfl, fun x q => (List.mem_cons.mp q).elim (fun z => .inr (by rw [z]; exact hD)) .inl⟩
  have envB : REnv K ⟨d1.am, D :: d1.ban⟩ H1 (wipeP ρ vs) (wipe σ vs) := ((e.mono e1).bars bD).wipe vs
  have lay0 : Ext ⟨d1.am, D :: d1.ban⟩ H1 ⟨d1.am, D :: d1.ban⟩ (upd H1 D (.lst [])) := ⟨⟨[], by simp, fun p hp => by simp at hp⟩, rfl, fun b u e _ => by rw [upd_ne (ne_of_none e hD)]; exact e⟩
  refine ⟨fun i m H' => ∃ dB μ' acc avs, Ext ⟨d1.am, D :: d1.ban⟩ H1 dB H' ∧ WOk K dB H' μ' ∧ H' D = some (.lst avs) ∧ RVs K dB H' acc avs ∧ i + m = xs.length ∧ mLcO mg mt mi1 mg1 mt1 me vs1 (wipeP ρ vs) (fun acc μ2 => P (.lst acc) μ2) (xs.drop i) acc μ',
    ⟨xs.length, _, μ1, [], [], lay0, w1.barD hD, upd_same, .nil, by omega, by simpa using q1⟩, fun i m H' hW => ?_⟩
  obtain ⟨dB, μ', acc, avs, eB, wB, hDv, rA, em, q2⟩ := hW
  have hDban : D ∈ dB.ban := by rw [eB.ban]; exact List.mem_cons_self
  obtain ⟨itg, its⟩ := it _ dB H' μ' bD eB wB
  cases hx : xs[i]? with
  | none =>
    have hle : xs.length ≤ i := List.getElem?_eq_none_iff.mp hx
    rw [List.drop_of_length_le hle] at q2
    refine .inl ⟨its i hle, ?_⟩
    obtain ⟨x1, x2, x3⟩ := lc_frozen e1 hD (w1.notban hD) eB wB hDv rA
    exact k _ H' μ' _ _ x1 x2 x3 q2
  | some x =>
    have hlt : i < xs.length := (List.getElem?_eq_some_iff.mp hx).1
    rw [drop_cons hx] at q2
    obtain ⟨go, yl⟩ := itg i x hx
    refine .inr ⟨go, fun H3 => ∃ dB μ' acc avs, Ext ⟨d1.am, D :: d1.ban⟩ H1 dB H3 ∧ WOk K dB H3 μ' ∧ H3 D = some (.lst avs) ∧ RVs K dB H3 acc avs ∧ mLcO mg mt mi1 mg1 mt1 me vs1 (wipeP ρ vs) (fun acc μ2 => P (.lst acc) μ2) (xs.drop (i + 1)) acc μ', fun H3 hN => ?_, fun v H3 hy => ?_⟩
    · obtain ⟨a1, a2, a3, a4, a5, a6, a7, a8, a10⟩ := hN
      exact ⟨m - 1, by omega, a1, a2, a3, a4, a5, a6, a7, a8, by omega, a10⟩
    · obtain ⟨ey, wy, ry⟩ := yl v H3 hy
      refine hg.run dB (wipe σ vs) H3 (wipeP ρ vs) μ' x v _ _ wy (envB.mono (eB.trans ey)) ry q2 fun d4 σ4 H4 ρ4 μ4 e4 w4 ee4 hl4 hs4 q4 => ⟨wipe_same hl4 hs4 hs, ?_⟩
      refine hc.run d4 σ4 H4 ρ4 μ4 _ _ w4 ee4 q4 fun d5 H5 μ5 b e5 w5 q5 => ?_
      have nD : D ∉ dB.am := (wB.ban D hDban).2
      have E5 : Ext dB H' d5 H5 := (ey.trans e4).trans e5
      cases b
      · exact ⟨d5, μ5, acc, avs, eB.trans E5, w5, E5.keep _ _ hDv nD, rA.mono E5, q5⟩
      · refine hi1.run d5 σ4 H5 ρ4 μ5 _ _ w5 (ee4.mono e5) q5 fun d6 H6 μ6 J1 ys Iv e6 w6 ⟨iv1, iv2, iv3⟩ iv ⟨hyl, q6⟩ => ?_
        have E6 : Ext dB H' d6 H6 := E5.trans e6
        have b6 : D ∈ d6.ban := by rw [E6.ban]; exact hDban
        have hD6 : H6 D = some (.lst avs) := E6.keep _ _ hDv nD
        refine ⟨fun j n H7 => ∃ dC μ' acc' bvs, Ext ⟨d1.am, D :: d1.ban⟩ H1 dC H7 ∧ WOk K dC H7 μ' ∧ H7 D = some (.lst bvs) ∧ RVs K dC H7 acc' bvs ∧ REnv K dC H7 (wipeP ρ4 vs1) (wipe σ4 vs1) ∧ Iv dC H7 ∧ j + n = ys.length ∧ acc'.length ≤ acc.length + j ∧
          mLcL mg1 mt1 me (wipeP ρ4 vs1) (fun acc' μ4 => mLcO mg mt mi1 mg1 mt1 me vs1 (wipeP ρ vs) (fun acc μ2 => P (.lst acc) μ2) (xs.drop (i + 1)) acc' μ4) (ys.drop j) acc' μ',
          ⟨ys.length, d6, μ6, acc, avs, eB.trans E6, w6, hD6, rA.mono E6, (ee4.mono (e5.trans e6)).wipe vs1, iv, by omega, by omega, by simpa using q6⟩, fun j n H7 hW1 => ?_⟩
        obtain ⟨dC, μ7, acc', bvs, E7, w7, hD7, rA7, env7, iv7, en, hal, q7⟩ := hW1
        obtain ⟨itg1, its1⟩ := iv3 dC H7 μ7 iv7 w7
        have bC : D ∈ dC.ban := by rw [E7.ban]; exact List.mem_cons_self
        have nC : D ∉ dC.am := (w7.ban D bC).2
        cases hy1 : ys[j]? with
        | none =>
          have hle : ys.length ≤ j := List.getElem?_eq_none_iff.mp hy1
          rw [List.drop_of_length_le hle] at q7
          exact .inl ⟨its1 j hle, dC, μ7, acc', bvs, E7, w7, hD7, rA7, q7⟩
        | some y =>
          have hlt1 : j < ys.length := (List.getElem?_eq_some_iff.mp hy1).1
          rw [drop_cons hy1] at q7
          obtain ⟨go1, yl1⟩ := itg1 j y hy1
          refine .inr ⟨go1, fun H8 => ∃ dC μ' acc' bvs, Ext ⟨d1.am, D :: d1.ban⟩ H1 dC H8 ∧ WOk K dC H8 μ' ∧ H8 D = some (.lst bvs) ∧ RVs K dC H8 acc' bvs ∧ REnv K dC H8 (wipeP ρ4 vs1) (wipe σ4 vs1) ∧ Iv dC H8 ∧ acc'.length ≤ acc.length + (j + 1) ∧
            mLcL mg1 mt1 me (wipeP ρ4 vs1) (fun acc' μ4 => mLcO mg mt mi1 mg1 mt1 me vs1 (wipeP ρ vs) (fun acc μ2 => P (.lst acc) μ2) (xs.drop (i + 1)) acc' μ4) (ys.drop (j + 1)) acc' μ', fun H8 hN => ?_, fun v8 H8 hy8 => ?_⟩
          · obtain ⟨a1, a2, a3, a4, a5, a6, a7, a8, a9, a10, a11, a12⟩ := hN
            exact ⟨n - 1, by omega, a1, a2, a3, a4, a5, a6, a7, a8, a9, a10, by omega, a11, a12⟩
          · obtain ⟨ey8, wy8, ry8⟩ := yl1 v8 H8 hy8
            refine hg1.run dC (wipe σ4 vs1) H8 (wipeP ρ4 vs1) μ7 y v8 _ _ wy8 (env7.mono ey8) ry8 q7 fun d9 σ9 H9 ρ9 μ9 e9 w9 ee9 hl9 hs9 q9 => ⟨wipe_same hl9 hs9 hs1, ?_⟩
            refine hc1.run d9 σ9 H9 ρ9 μ9 _ _ w9 ee9 q9 fun dE HE μE b eE wE qE => ?_
            have F9 : Ext dC H7 dE HE := (ey8.trans e9).trans eE
            cases b
            · exact ⟨dE, μE, acc', bvs, E7.trans F9, wE, F9.keep _ _ hD7 nC, rA7.mono F9, env7.mono F9, iv1 _ _ _ _ iv7 F9, by omega, qE⟩
            · refine he.run dE σ9 HE ρ9 μE _ _ wE (ee9.mono eE) qE fun dG HG μG z u eG wG rG qG => ?_
              have FG : Ext dC H7 dG HG := F9.trans eG
              have hDG : HG D = some (.lst bvs) := FG.keep _ _ hD7 nC
              have bG : D ∈ dG.ban := by rw [FG.ban]; exact bC
              have rAG := (rA7.mono FG).append (.cons rG .nil)
              have EG := E7.trans FG
              have nG := no_tup hDG
              refine ⟨bvs, hDG, by rw [← rA7.length]; exact lim_lt' (by omega), dG, μG, acc' ++ [z], bvs ++ [u], ⟨EG.am, EG.ban, fun b o hb hn => by rw [upd_ne (ne_of_none hb hD)]; exact EG.keep b o hb hn⟩, wG.made bG nG, upd_same, rAG.made bG nG, ?_, iv2 _ _ _ _ _ (iv1 _ _ _ _ iv7 FG) bG hDG, by rw [List.length_append]; simp; omega, qG⟩
              have em := env7.mono FG
              exact ⟨em.1, fun i x q => let ⟨v, a, c⟩ := em.2 i x q; ⟨v, a, c.made bG nG⟩⟩⟩
end
end Fx
namespace Fx
open PySem PySem.Spec PyProof.Rows L2 RZ
section
variable {X : Cx}
variable {k : Nat} {f : Addr} {fd : FuncData} {ps ks : List Str} {S : PSp} {x : Str} {p pos : Pos} {e : Expr} {es : List Expr} {kws : List Keyword} {t tk : TA}
theorem pek_call (K : PySem.W.Frag) (h : X.K = K) {k : Nat} {f : Addr} {fd : FuncData} {ps : List Str} {S : PSp} {x : Str} {p pos : Pos} {e : Expr} {es : List Expr} {t : TA}
    (F : FnG X.prog X.w X.K X.mg X.base k f fd ps S) (hr : Room k X.A) (hgd : X.A.guards = some []) (hg : Gl X x) (hm : X.mg x = some (.ref f)) (hk : PySem.W.keepIn X.K (.ref f) = true) (hb : Binds X.K fd ps [])
    (ha : PA X (e :: es) t) (hdb : (x == ("__debug__" : Str)) = false := by decide) (he : starEach (e :: es) X.env = (false, eval e X.env) :: starEach es X.env := by rfl) (hpl : (backTo pos (starEach es X.env)).any (·.1) = false := by rfl) :
    PE X (.Call (.Name x p) (e :: es) [] pos) (tCallG K S t) := h ▸ pe_callG F hr hgd hg hm hk hb ha hdb he hpl
end
end Fx
namespace Fx
open PySem PySem.Spec PyProof.Rows L2 RZ
abbrev MIC := PEnv → Store → (List PV → (Store → Prop) → Store → Prop) → Prop
def ItC (K : PySem.W.Frag) (d0 : Wd) (H0 : Hp) (J : It) (xs : List PV) (C : Store → Prop) : Prop :=
  ∀ d1 d H μ, Bars d0 d1 H0 → Ext d1 H0 d H → WOk K d H μ → C μ → (∀ (i : Nat) x, xs[i]? = some x → J.go i H ∧ ∀ v H', J.yld i H v H' → Ext d H d H' ∧ WOk K d H' μ ∧ RV K d H' x v) ∧ (∀ i, xs.length ≤ i → J.stop i H)
class FC (K : PySem.W.Frag) (t : TI) (m : outParam MIC) : Prop where
  run : ∀ (d : Wd) (σ : L2.St) (H : Hp) (ρ : PEnv) (μ : Store) (P : List PV → (Store → Prop) → Store → Prop) (R : It → Hp → Prop), WOk K d H μ → REnv K d H ρ σ → m ρ μ P →
    (∀ d' H' μ' J xs C, Ext d H d' H' → WOk K d' H' μ' → ItC K d' H' J xs C → P xs C μ' → R J H') → t σ H R
section
variable {K : PySem.W.Frag} {d d' : Wd} {H H' : Hp} {a b : Addr} {vs us : List V} {xs ys : List PV} {μ : Store}
def mSeqC (m : ME) : MIC := fun ρ μ P => m ρ μ fun x μ1 => match x with | .mr n => (match μ1[n]? with | some (.lst xs) => P xs (fun μ2 => μ2[n]? = some (.lst xs)) μ1 | _ => False) | _ => False
def mForLC (C : Store → Prop) (g : MG) (b : MS) (P : MEnds) : List PV → PEnv → Store → Prop
  | [], ρ, μ => C μ ∧ P.nx ρ μ
  | x :: xs, ρ, μ => C μ ∧ g x ρ μ fun ρ1 μ1 => b { P with nx := mForLC C g b P xs, ct := mForLC C g b P xs, bk := P.nx } ρ1 μ1
def mForC (mi : MIC) (g : MG) (b : MS) : MS := fun P ρ μ => mi ρ μ fun xs C μ1 => mForLC C g b P xs ρ μ1
instance {wi mi g mg s tb mb} [hi : FC K wi mi] [hg : FG K g mg s] [hb : FS K tb mb] : FS K (tFor wi g tb) (mForC mi mg mb) := ⟨fun d σ H ρ μ P D w e q l => by
  refine hi.run d σ H ρ μ _ _ w e q fun d1 H1 μ1 J xs C e1 w1 it q1 => ?_
  refine ⟨fun i m σ' H' => ∃ d' ρ' μ', Ext d1 H1 d' H' ∧ WOk K d' H' μ' ∧ REnv K d' H' ρ' σ' ∧ i + m = xs.length ∧ mForLC C mg mb P (xs.drop i) ρ' μ', ⟨xs.length, d1, ρ, μ1, .refl, w1, e.mono e1, by omega, by simpa using q1⟩, fun i m σ' H' hW => ?_⟩
  obtain ⟨d2, ρ2, μ2, e2, w2, ee2, em, q2⟩ := hW
  have hC : C μ2 := by
    cases h : xs.drop i with
    | nil => rw [h] at q2; exact q2.1
    | cons x r => rw [h] at q2; exact q2.1
  obtain ⟨itg, its⟩ := it d1 d2 H' μ2 ⟨rfl, fun _ h => .inl h⟩ e2 w2 hC
  cases hx : xs[i]? with
  | none =>
    have hle : xs.length ≤ i := List.getElem?_eq_none_iff.mp hx
    rw [List.drop_of_length_le hle] at q2
    exact .inl ⟨its i hle, l.nx d2 σ' H' ρ2 μ2 (e1.trans e2) w2 ee2 q2.2⟩
  | some x =>
    have hlt : i < xs.length := (List.getElem?_eq_some_iff.mp hx).1
    rw [drop_cons hx] at q2
    obtain ⟨go, yl⟩ := itg i x hx
    refine .inr ⟨go, fun σ3 H3 => ∃ d' ρ' μ', Ext d1 H1 d' H3 ∧ WOk K d' H3 μ' ∧ REnv K d' H3 ρ' σ3 ∧ mForLC C mg mb P (xs.drop (i + 1)) ρ' μ', fun σ3 H3 hN => ?_, fun v H3 hy => ?_⟩
    · obtain ⟨d3, ρ3, μ3, a1, a2, a3, a4⟩ := hN
      exact ⟨m - 1, by omega, d3, ρ3, μ3, a1, a2, a3, by omega, a4⟩
    · obtain ⟨ey, wy, ry⟩ := yl v H3 hy
      refine hg.run d2 σ' H3 ρ2 μ2 x v _ _ wy (ee2.mono ey) ry q2.2 fun d4 σ4 H4 ρ4 μ4 e4 w4 ee4 _ _ q4 => ?_
      have E4 : Ext d H d4 H4 := ((e1.trans e2).trans ey).trans e4
      have E4' : Ext d1 H1 d4 H4 := (e2.trans ey).trans e4
      exact hb.run d4 σ4 H4 ρ4 μ4 _ _ w4 ee4 q4
        ⟨fun d5 σ5 H5 ρ5 μ5 e5 w5 ee5 q5 => ⟨d5, ρ5, μ5, E4'.trans e5, w5, ee5, q5⟩, fun d5 H5 μ5 x v e5 => l.rt d5 H5 μ5 x v (E4.trans e5),
         fun d5 σ5 H5 ρ5 μ5 e5 => l.nx d5 σ5 H5 ρ5 μ5 (E4.trans e5), fun d5 σ5 H5 ρ5 μ5 e5 w5 ee5 q5 => ⟨d5, ρ5, μ5, E4'.trans e5, w5, ee5, q5⟩⟩⟩
def mLcLC (C : Store → Prop) (g : MG) (c : MT) (e : ME) (ρ0 : PEnv) (P : List PV → Store → Prop) : List PV → List PV → Store → Prop
  | [], acc, μ => C μ ∧ P acc μ
  | x :: xs, acc, μ => C μ ∧ g x ρ0 μ fun ρ1 μ1 => c ρ1 μ1 fun b μ2 => if b = true then e ρ1 μ2 fun y μ3 => mLcLC C g c e ρ0 P xs (acc ++ [y]) μ3 else mLcLC C g c e ρ0 P xs acc μ2
theorem mLcLC_C {C : Store → Prop} {g : MG} {c : MT} {e : ME} {ρ0 : PEnv} {P : List PV → Store → Prop} {xs acc : List PV} {μ : Store} (h : mLcLC C g c e ρ0 P xs acc μ) : C μ := by
  cases xs <;> exact h.1
theorem lc_runC {wi mi g mg s tt mt te me} {vs : List Nat} [hi : FC K wi mi] [hg : FG K g mg s] [hc : FT K tt mt] [he : FE K te me] {σ : L2.St} {ρ : PEnv} {P : List PV → Store → Prop} {Q : VK} (w : WOk K d H μ) (e : REnv K d H ρ σ) (hs : ∀ i ∈ s, i ∈ vs)
    (q : mi ρ μ fun xs C μ1 => xs.length ≤ lim ∧ mLcLC C mg mt me (wipeP ρ vs) P xs [] μ1)
    (fin : ∀ (d1 : Wd) (H1 : Hp) (D : Addr) (dB : Wd) (H' : Hp) (μ' : Store) (acc : List PV) (avs : List V), Ext d H d1 H1 → H1 D = none → D ∉ d1.ban → Ext ⟨d1.am, D :: d1.ban⟩ H1 dB H' → WOk K dB H' μ' → H' D = some (.lst avs) → RVs K dB H' acc avs → P acc μ' → Q (.ref D) H') :
    tLc wi g tt te vs σ H Q := by
  refine hi.run d σ H ρ μ _ _ w e q fun d1 H1 μ1 J xs C e1 w1 it ⟨hz, q1⟩ => ?_
  intro D hD
  have bD : Bars d1 ⟨d1.am, D :: d1.ban⟩ H1 := ⟨rfl, fun x q => (List.mem_cons.mp q).elim (fun z => .inr (by rw [z]; exact hD)) .inl⟩
  have envB : REnv K ⟨d1.am, D :: d1.ban⟩ H1 (wipeP ρ vs) (wipe σ vs) := ((e.mono e1).bars bD).wipe vs
  have lay0 : Ext ⟨d1.am, D :: d1.ban⟩ H1 ⟨d1.am, D :: d1.ban⟩ (upd H1 D (.lst [])) := ⟨⟨[], by simp, fun p hp => by simp at hp⟩, rfl, fun b u e _ => by rw [upd_ne (ne_of_none e hD)]; exact e⟩
  refine ⟨fun i m H' => ∃ dB μ' acc avs, Ext ⟨d1.am, D :: d1.ban⟩ H1 dB H' ∧ WOk K dB H' μ' ∧ H' D = some (.lst avs) ∧ RVs K dB H' acc avs ∧ i + m = xs.length ∧ acc.length ≤ i ∧ mLcLC C mg mt me (wipeP ρ vs) P (xs.drop i) acc μ',
    ⟨xs.length, _, μ1, [], [], lay0, w1.barD hD, upd_same, .nil, by omega, Nat.le_refl _, by simpa using q1⟩, fun i m H' hW => ?_⟩
  obtain ⟨dB, μ', acc, avs, eB, wB, hDv, rA, em, hal, q2⟩ := hW
  have hDban : D ∈ dB.ban := by rw [eB.ban]; exact List.mem_cons_self
  obtain ⟨itg, its⟩ := it _ dB H' μ' bD eB wB (mLcLC_C q2)
  cases hx : xs[i]? with
  | none =>
    have hle : xs.length ≤ i := List.getElem?_eq_none_iff.mp hx
    rw [List.drop_of_length_le hle] at q2
    exact .inl ⟨its i hle, fin d1 H1 D dB H' μ' acc avs e1 hD (w1.notban hD) eB wB hDv rA q2.2⟩
  | some x =>
    have hlt : i < xs.length := (List.getElem?_eq_some_iff.mp hx).1
    rw [drop_cons hx] at q2
    obtain ⟨go, yl⟩ := itg i x hx
    refine .inr ⟨go, fun H3 => ∃ dB μ' acc avs, Ext ⟨d1.am, D :: d1.ban⟩ H1 dB H3 ∧ WOk K dB H3 μ' ∧ H3 D = some (.lst avs) ∧ RVs K dB H3 acc avs ∧ acc.length ≤ i + 1 ∧ mLcLC C mg mt me (wipeP ρ vs) P (xs.drop (i + 1)) acc μ', fun H3 hN => ?_, fun v H3 hy => ?_⟩
    · obtain ⟨a1, a2, a3, a4, a5, a6, a7, a8, a9, a10⟩ := hN
      exact ⟨m - 1, by omega, a1, a2, a3, a4, a5, a6, a7, a8, by omega, a9, a10⟩
    · obtain ⟨ey, wy, ry⟩ := yl v H3 hy
      refine hg.run dB (wipe σ vs) H3 (wipeP ρ vs) μ' x v _ _ wy (envB.mono (eB.trans ey)) ry q2.2 fun d4 σ4 H4 ρ4 μ4 e4 w4 ee4 hl4 hs4 q4 => ⟨wipe_same hl4 hs4 hs, ?_⟩
      refine hc.run d4 σ4 H4 ρ4 μ4 _ _ w4 ee4 q4 fun d5 H5 μ5 b e5 w5 q5 => ?_
      have nD : D ∉ dB.am := (wB.ban D hDban).2
      have E5 : Ext dB H' d5 H5 := (ey.trans e4).trans e5
      cases b
      · exact ⟨d5, μ5, acc, avs, eB.trans E5, w5, E5.keep _ _ hDv nD, rA.mono E5, by omega, q5⟩
      · refine he.run d5 σ4 H5 ρ4 μ5 _ _ w5 (ee4.mono e5) q5 fun d6 H6 μ6 y u e6 w6 r6 q6 => ?_
        have E6 : Ext dB H' d6 H6 := E5.trans e6
        have hD6 : H6 D = some (.lst avs) := E6.keep _ _ hDv nD
        have ban6 : D ∈ d6.ban := by rw [E6.ban]; exact hDban
        have rA6 := (rA.mono E6).append (.cons r6 .nil)
        refine ⟨avs, hD6, by rw [← rA.length]; exact lim_lt' (by omega), d6, μ6, acc ++ [y], avs ++ [u], ?_, w6.made ban6 (no_tup hD6), upd_same, rA6.made ban6 (no_tup hD6), by rw [List.length_append]; simp; omega, q6⟩
        have E7 := eB.trans E6
        exact ⟨E7.am, E7.ban, fun b o hb hn => by rw [upd_ne (ne_of_none hb hD)]; exact E7.keep b o hb hn⟩
def mLcC (mi : MIC) (g : MG) (c : MT) (e : ME) (s vs : List Nat) : ME := fun ρ μ P => (∀ i ∈ s, i ∈ vs) ∧ mi ρ μ fun xs C μ1 => xs.length ≤ lim ∧ mLcLC C g c e (wipeP ρ vs) (fun acc μ2 => P (.lst acc) μ2) xs [] μ1
instance {wi mi g mg s tt mt te me vs} [hi : FC K wi mi] [hg : FG K g mg s] [hc : FT K tt mt] [he : FE K te me] : FE K (tLc wi g tt te vs) (mLcC mi mg mt me s vs) := ⟨fun d σ H ρ μ P Q w e q k => by
  refine lc_runC w e q.1 q.2 fun d1 H1 D dB H' μ' acc avs e1 hD hDn eB w' hv r p => ?_
  obtain ⟨x1, x2, x3⟩ := lc_frozen e1 hD hDn eB w' hv r
  exact k _ H' μ' _ _ x1 x2 x3 p⟩
end
section
variable {α : Type} {g : MG} {c : MT} {e : ME} {ρ0 : PEnv} {P : List PV → Store → Prop} {C : Store → Prop}
theorem lc_any {enc : α → PV} (I : List α → List PV → Store → Prop) : ∀ {l done : List α} {acc : List PV} {μ : Store}, I done acc μ → (∀ pre a post acc μ, done ++ l = pre ++ a :: post → I pre acc μ → ∀ N : List PV → Store → Prop, (∀ acc μ, I (pre ++ [a]) acc μ → N acc μ) →
      g (enc a) ρ0 μ fun ρ1 μ1 => c ρ1 μ1 fun b μ2 => if b = true then e ρ1 μ2 (fun y μ3 => N (acc ++ [y]) μ3) else N acc μ2) → (∀ acc μ, I (done ++ l) acc μ → P acc μ) → mLcL g c e ρ0 P (l.map enc) acc μ
  | [], done, acc, μ, h0, _, hP => hP acc μ (by simpa using h0)
  | a :: l, done, acc, μ, h0, hs, hP => by
    have e1 : done ++ a :: l = (done ++ [a]) ++ l := by simp
    show g (enc a) ρ0 μ fun ρ1 μ1 => c ρ1 μ1 fun b μ2 => if b = true then e ρ1 μ2 (fun y μ3 => mLcL g c e ρ0 P (l.map enc) (acc ++ [y]) μ3) else mLcL g c e ρ0 P (l.map enc) acc μ2
    exact hs done a l acc μ rfl h0 (fun acc μ => mLcL g c e ρ0 P (l.map enc) acc μ) fun acc μ h => lc_any I (done := done ++ [a]) h (fun pre b post acc μ e2 => hs pre b post acc μ (by rw [e1]; exact e2)) fun acc μ h => hP acc μ (by rw [e1]; exact h)
theorem lcC_map {enc out : α → PV} {μ : Store} (hC : C μ) : ∀ {l : List α} {acc : List PV}, (∀ a ∈ l, ∀ k : PV → Store → Prop, k (out a) μ → g (enc a) ρ0 μ fun ρ1 μ1 => e ρ1 μ1 k) → P (acc ++ l.map out) μ → mLcLC C g mYes e ρ0 P (l.map enc) acc μ
  | [], acc, _, hP => by simpa [mLcLC, hC] using hP
  | a :: l, acc, h, hP => by
    refine ⟨hC, ?_⟩
    show g (enc a) ρ0 μ fun ρ1 μ1 => e ρ1 μ1 fun y μ3 => mLcLC C g mYes e ρ0 P (l.map enc) (acc ++ [y]) μ3
    exact h a List.mem_cons_self _ (lcC_map hC (fun b hb => h b (List.mem_cons_of_mem _ hb)) (by simpa using hP))
end
end Fx
namespace Fx
open PySem PySem.Spec PyProof.Rows L2 RZ
theorem fun_uniq {K : PySem.W.Frag} {x qual : Str} {st : Stmt} {f : Addr} {fd fd' : FuncData} (F : Fun K x qual st f fd) (F' : Fun K x qual st f fd') : fd = fd' := by
  obtain ⟨oc, od, kV, doc, pm, an, cdv, ct, osl, e, lk, hcd⟩ := F.ex
  obtain ⟨oc', od', kV', doc', pm', an', cdv', ct', osl', e', lk', hcd'⟩ := F'.ex
  rw [lk] at lk'
  injection lk' with h
  injection h with h1 h2 h3
  injection h3
theorem law_fin {P : Program} {w : World} {K : PySem.W.Frag} {mg : Str → Option Value} {k n : Nat} {st : Stmt} {fa : Addr} {ps : Str} {S : PSp} (hfa : mg "law" = some (.ref fa)) (o : Own K mg "law" st)
    (hb : ∀ (kV doc pm : Value) (an : Option Addr) (cdv ct : Value) (s : Shared) (u : Value), BindsTo s (PySem.W.fnOf "law" "law" (defArgs st) (defBody st) (defScope st) .none kV doc pm an cdv ct) ⟨[u], []⟩ [(ps, u)])
    (ok : ∀ base : Heap, K.In base → base.Ns mainGlobals mg → Ok P w K mg base k "law" st [ps] S) (hS : ∀ xs μ Q, lawS n xs μ Q → S xs μ Q) :
    ∃ fd : FuncData, (∀ (s : Shared) (u : Value), BindsTo s fd ⟨[u], []⟩ [(ps, u)]) ∧ ∀ base : Heap, K.In base → base.Ns mainGlobals mg → FnG P w K mg base k fa fd [ps] (lawS n) := by
  obtain ⟨f, fd, F, e⟩ := o
  rw [hfa] at e
  cases e
  obtain ⟨oc, od, kV, doc, pm, an, cdv, ct, osl, ef, lk, hcd⟩ := F.ex
  refine ⟨fd, fun s u => by rw [ef]; exact hb kV doc pm an cdv ct s u, fun base hK hg => ?_⟩
  obtain ⟨f', fd', F', e', b', G'⟩ := ok base hK hg
  rw [hfa] at e'
  cases e'
  have := fun_uniq F F'
  subst this
  exact G'.imp hS
theorem own_mk {K : PySem.W.Frag} {h : Heap} {mg : Str → Option Value} {x : Str} {st : Stmt} {f : Addr} {od an : Option Addr} {sl : Array (Option Value)} {oc kV dc pm cd ct : Value} (X : K.In h) (G : h.Ns mainGlobals mg)
    (a : PySem.W.nsIn K mainGlobals x = some (some (.ref f))) (l : K.lookup f = some ⟨oc, od, .func (PySem.W.fnOf x x (defArgs st) (defBody st) (defScope st) .none kV dc pm an cd ct), sl⟩) (c : PySem.W.codeIn K cd x = true) (k : PySem.W.keepIn K (.ref f) = true) : Own K mg x st :=
  ⟨f, _, fun_mk l c k, PySem.W.mg_of X G a⟩
theorem blt_mk {K : PySem.W.Frag} {h : Heap} {mg : Str → Option Value} (X : K.In h) (G : h.Ns mainGlobals mg) (z : ∀ x ∈ names0, PySem.W.nsIn K mainGlobals x = some none) : Blt mg := fun x hx => PySem.W.mg_none_of X G (z x hx)
end Fx
namespace Fx
open PySem PySem.Spec PyProof.Rows L2 RZ
section
variable {K : PySem.W.Frag}
def mSortSet (m : ME) : ME := fun ρ μ P => m ρ μ fun x μ1 => match x with | .tup ys => (match intsP ys with | some ns => ns.length < 63 ∧ ∀ ms : List Int, ms.Pairwise (· < ·) → (∀ k : Int, k ∈ ms ↔ k ∈ ns) → P (.lst (ms.map PV.int)) μ1 | none => False) | _ => False
end
end Fx
namespace Fx
open PySem PySem.Spec PyProof.Rows L2 RZ
section
variable {prog : Program} {w : World} {A : Around} {E : Value → Shared → Prop} {s : Shared}
end
section
variable {K : PySem.W.Frag}
def mRevT (m : ME) : ME := fun ρ μ P => m ρ μ fun x μ1 => match itemsOf x μ1 with | some xs => (match x with | .tup _ => P (.tup xs.reverse) μ1 | _ => False) | none => False
end
end Fx
namespace Fx
open PySem PySem.Spec PyProof.Rows L2 RZ
section
variable {K : PySem.W.Frag} {d d' : Wd} {H H' : Hp} {a b : Addr} {vs us : List V} {xs ys : List PV} {μ : Store}
def mTruth (m : ME) : MT := fun ρ μ P => m ρ μ fun x μ1 => match x with | .bl b => P b μ1 | .int i => P (i != 0) μ1 | _ => False
def reprS : V → Option Str
  | .int i => if i.natAbs.log2 < 1920 then some (toString i : String) else none
  | .bl c => some (if c then "True" else "False" : String)
  | .non => some ("None" : String)
  | _ => none
def rReprA (K : PySem.W.Frag) : List V → Hp → VK → Prop := fun xs H Q => rRepr K xs H Q ∨ ∃ x z, xs = [x] ∧ reprS x = some z ∧ Q (.str z) H
theorem cb_reprA {X : Cx} (hg : X.A.guards = some []) (hu : X.A.units + 64 < cLine) : CallR X (.builtin "repr") (rReprA X.K) := by
  intro pins s σ H vs us Q I r h
  rcases h with h | ⟨x, z, rfl, hz, q⟩
  · exact cb_repr hg hu pins s σ H vs us Q I r h
  · obtain ⟨u, rfl, ru⟩ := vals1 r
    cases x with
    | non =>
      obtain rfl : u = Value.none := ru
      simp only [reprS, Option.some.injEq] at hz
      subst hz
      exact PySem.P.repr_of_none ⟨.str _, H, I.tok _, ⟨_, rfl⟩, q⟩
    | bl c =>
      obtain rfl : u = Value.bool c := ru
      simp only [reprS, Option.some.injEq] at hz
      subst hz
      exact PySem.P.repr_of_bool ⟨.str _, H, I.tok _, ⟨_, by cases c <;> rfl⟩, q⟩
    | int i =>
      obtain ⟨t, rfl⟩ := ru
      unfold reprS at hz
      simp only at hz
      split at hz
      · rename_i hl
        cases hz
        exact PySem.P.repr_of_int hl ⟨.str _, H, I.tok _, ⟨_, rfl⟩, q⟩
      · cases hz
    | _ => exact absurd hz (by simp [reprS])
def pReprA : MB := fun xs μ P => match xs with
  | [x] => (match x with
    | .int i => i.natAbs.log2 < 1920 ∧ P (.str (toString i : String)) μ
    | .bl c => P (.str (if c then "True" else "False" : String)) μ
    | .non => P (.str ("None" : String)) μ
    | y => pRepr [y] μ P)
  | _ => False
instance : FB K (rReprA K) pReprA := ⟨fun d H μ xs vs P Q w r q k => by
  have gen : pRepr xs μ P → rReprA K vs H Q := fun q => .inl (FB.run (p := pRepr) d H μ xs vs P Q w r q k)
  match xs, r, q, gen with
  | [.int i], .cons (.int _) .nil, ⟨hz, q⟩, _ => exact .inr ⟨_, _, rfl, by simp only [reprS]; rw [if_pos hz], k d H μ _ _ .refl w (.str _) q⟩
  | [.bl c], .cons (.bl _) .nil, q, _ => exact .inr ⟨_, _, rfl, rfl, k d H μ _ _ .refl w (.str _) q⟩
  | [], _, q, _ => exact q.elim
  | [.non], .cons .non .nil, q, _ => exact .inr ⟨_, _, rfl, rfl, k d H μ _ _ .refl w (.str _) q⟩
  | [.str _], _, q, gen => exact gen q
  | [.ty _], _, q, gen => exact gen q
  | [.tup _], _, q, gen => exact gen q
  | [.lst _], _, q, gen => exact gen q
  | [.kl _], _, q, gen => exact gen q
  | [.mr _], _, q, gen => exact gen q
  | _ :: _ :: _, _, q, gen => exact q.elim⟩
end
section
variable {K : PySem.W.Frag} {d d' : Wd} {H H' : Hp} {a b : Addr} {vs us : List V} {xs ys : List PV} {μ : Store}
def dkOfP (x : PV) (μ : Store) : Option (List (Key × PV)) := match x with | .mr n => (match μ[n]? with | some (.dk kvs) => some kvs | _ => none) | _ => none
def pLenD : MB := fun xs μ P => match xs with | [x] => (match dkOfP x μ with | some kvs => P (.int (kvs.length : Nat)) μ | none => False) | _ => False
def keyPV : Key → PV
  | .inl i => .int i
  | .inr x => .str x
def pLstD : MB := fun xs μ P => match xs with | [x] => (match dkOfP x μ with | some kvs => P (.lst (kvs.map fun kv => keyPV kv.1)) μ | none => False) | _ => False
def mDNew : ME := fun _ μ P => P (.mr μ.length) (μ ++ [.dk []])
instance : FE K tDNewK mDNew := ⟨fun d σ H ρ μ P Q w e q k => fun p hp => by
  have ee := Ext.push (o := .dK []) w hp
  exact k (d.push p) _ _ _ _ ee (w.push (m := .dk []) hp ⟨[], upd_same, rfl, .nil⟩) (lay_mr w) q⟩
end
section
variable {K : PySem.W.Frag} {d d' : Wd} {H H' : Hp} {a b : Addr} {vs us : List V} {xs ys : List PV} {μ : Store}
def pRepL : MO2 := fun x y μ P => match x, y with
  | .lst xs, .int k => (0 ≤ k ∧ k ≤ 1000 ∧ xs.length ≤ 1000) ∧ P (.lst (List.replicate k.toNat xs).flatten) μ
  | _, _ => False
end
section
variable {K : PySem.W.Frag}
def mLenSetN (m : ME) : ME := fun ρ μ P => m ρ μ fun x μ1 => match x with | .tup ys => (match intsP ys with | some ns => ns.length ≤ 4000 ∧ ∀ ms : List Int, ms.Nodup → (∀ k : Int, k ∈ ms ↔ k ∈ ns) → P (.int (ms.length : Nat)) μ1 | none => False) | _ => False
end
end Fx
namespace Fx
open PySem PySem.Spec PyProof.Rows L2 RZ
section
variable {K : PySem.W.Frag} {d d' : Wd} {H H' : Hp} {a b : Addr} {vs us : List V} {xs ys : List PV} {μ : Store}
def mLockV (i : Nat) (mb : MS) : MS := fun P ρ μ => match ρ[i]? with
  | some (some (.mr n)) => (match μ[n]? with
    | some (.dk kvs) => ∀ o ws, mb { nx := fun ρ' μ' => μ'[n]? = some (.fd o ws kvs) ∧ P.nx ρ' (μ'.set n (.dk kvs)), rt := fun x μ' => μ'[n]? = some (.fd o ws kvs) ∧ P.rt x (μ'.set n (.dk kvs)), bk := fun ρ' μ' => μ'[n]? = some (.fd o ws kvs) ∧ P.bk ρ' (μ'.set n (.dk kvs)), ct := fun ρ' μ' => μ'[n]? = some (.fd o ws kvs) ∧ P.ct ρ' (μ'.set n (.dk kvs)) } ρ (μ.set n (.fd o ws kvs))
    | _ => False)
  | _ => False
def mLockE (i : Nat) (me : ME) : ME := fun ρ μ P => match ρ[i]? with
  | some (some (.mr n)) => (match μ[n]? with
    | some (.dk kvs) => ∀ o ws, me ρ (μ.set n (.fd o ws kvs)) fun x μ' => μ'[n]? = some (.fd o ws kvs) ∧ P x (μ'.set n (.dk kvs))
    | _ => False)
  | _ => False
theorem rks_get {ws : List (Key × V)} : ∀ {kvs : List (Key × PV)} {ws : List (Key × V)}, ws.map (·.1) = kvs.map (·.1) → RVs K d H (kvs.map (·.2)) (ws.map (·.2)) → ∀ (i : Nat) (k : Key) (x : PV), kvs[i]? = some (k, x) → ∃ v, ws[i]? = some (k, v) ∧ RV K d H x v
  | [], _, _, _, i, k, x, h => by simp at h
  | p :: kvs, [], h1, _, _, _, _, _ => by simp at h1
  | p :: kvs, q :: ws, h1, h2, i, k, x, h => by
    simp only [List.map_cons, List.cons.injEq] at h1
    obtain ⟨z1, z2⟩ := h1
    cases h2 with
    | cons r t =>
      cases i with
      | zero =>
        simp at h
        subst h
        exact ⟨q.2, by obtain ⟨q1, q2⟩ := q; simp at z1; subst z1; rfl, r⟩
      | succ i =>
        obtain ⟨v, hv, rv⟩ := rks_get (ws := ws) z2 t i k x (by simpa using h)
        exact ⟨v, by simpa using hv, rv⟩
def mItemsC (m : ME) : MIC := fun ρ μ P => m ρ μ fun x μ1 => match x with | .mr n => (match μ1[n]? with | some (.fd o ws kvs) => P (kvs.map fun kv => .tup [keyPV kv.1, kv.2]) (fun μ2 => μ2[n]? = some (.fd o ws kvs)) μ1 | _ => False) | _ => False
def mKeysC (m : ME) : MIC := fun ρ μ P => m ρ μ fun x μ1 => match x with | .mr n => (match μ1[n]? with | some (.fd o ws kvs) => P (kvs.map fun kv => keyPV kv.1) (fun μ2 => μ2[n]? = some (.fd o ws kvs)) μ1 | _ => False) | _ => False
theorem key_rv (k : Key) : RV K d H (keyPV k) (kV k) := by
  cases k with
  | inl i => exact .int i
  | inr x => exact .str x
theorem fd_len {ws : List (Key × V)} {kvs : List (Key × PV)} (h : ws.map (·.1) = kvs.map (·.1)) : ws.length = kvs.length := by
  have := congrArg List.length h
  simpa using this
instance {t m} [h : FE K t m] : FC K (iItems t) (mItemsC m) := ⟨fun d σ H ρ μ P R w e q k => by
  refine h.run d σ H ρ μ _ _ w e q fun d1 H1 μ1 x v e1 w1 r1 q1 => ?_
  cases r1 with
  | @mr n a h1 =>
    simp only at q1
    split at q1
    · rename_i o ws kvs e2
      obtain ⟨hq, k1, k2⟩ := w1.obj h1 e2
      refine ⟨a, o, ws, rfl, hq, k d1 H1 μ1 _ _ _ e1 w1 (fun d2 d3 H3 μ3 bb ee w3 hC => ?_) q1⟩
      have h3 : d3.am[n]? = some a := ee.at (by rw [bb.1]; exact h1)
      obtain ⟨hq3, k3, k4⟩ := w3.obj h3 hC
      refine ⟨fun i x hx => ?_, fun i hi => ⟨hq3, by rw [fd_len k3]; simpa using hi⟩⟩
      have hi : i < kvs.length := by simpa using (List.getElem?_eq_some_iff.mp hx).1
      refine ⟨⟨hq3, by rw [fd_len k3]; exact hi⟩, fun u H4 hy => ?_⟩
      obtain ⟨T, kk, v, hv, rfl, hT, rfl⟩ := hy
      rw [List.getElem?_map, List.getElem?_eq_getElem hi] at hx
      have hx := Option.some.inj hx
      obtain ⟨v', hv', rv⟩ := rks_get (ws := ws) k3 k4 i _ _ (List.getElem?_eq_getElem hi)
      rw [hv'] at hv
      simp only [Option.some.injEq, Prod.mk.injEq] at hv
      obtain ⟨z1, z2⟩ := hv
      subst z2
      rw [← hx, ← z1]
      exact ⟨Ext.lay w3 hT, w3.lay hT, lay_tup w3 (.cons (key_rv _) (.cons rv .nil)) hT⟩
    · exact q1.elim
  | _ => exact q1.elim⟩
instance {t m} [h : FE K t m] : FC K (iKeys t) (mKeysC m) := ⟨fun d σ H ρ μ P R w e q k => by
  refine h.run d σ H ρ μ _ _ w e q fun d1 H1 μ1 x v e1 w1 r1 q1 => ?_
  cases r1 with
  | @mr n a h1 =>
    simp only at q1
    split at q1
    · rename_i o ws kvs e2
      obtain ⟨hq, k1, k2⟩ := w1.obj h1 e2
      refine ⟨a, o, rfl, .inl ⟨ws, hq, k d1 H1 μ1 _ _ _ e1 w1 (fun d2 d3 H3 μ3 bb ee w3 hC => ?_) q1⟩⟩
      have h3 : d3.am[n]? = some a := ee.at (by rw [bb.1]; exact h1)
      obtain ⟨hq3, k3, k4⟩ := w3.obj h3 hC
      refine ⟨fun i x hx => ?_, fun i hi => ⟨hq3, by rw [fd_len k3]; simpa using hi⟩⟩
      have hi : i < kvs.length := by simpa using (List.getElem?_eq_some_iff.mp hx).1
      refine ⟨⟨hq3, by rw [fd_len k3]; exact hi⟩, fun u H4 hy => ?_⟩
      obtain ⟨rfl, kk, v, hv, rfl⟩ := hy
      rw [List.getElem?_map, List.getElem?_eq_getElem hi] at hx
      have hx := Option.some.inj hx
      obtain ⟨v', hv', rv⟩ := rks_get (ws := ws) k3 k4 i _ _ (List.getElem?_eq_getElem hi)
      rw [hv'] at hv
      simp only [Option.some.injEq, Prod.mk.injEq] at hv
      rw [← hx, ← hv.1]
      exact ⟨.refl, w3, key_rv _⟩
    · exact q1.elim
  | _ => exact q1.elim⟩
def mDGet2 (md my mx : ME) : ME := fun ρ μ P => md ρ μ fun x μ1 => (dictOfP x μ1).isSome = true ∧ my ρ μ1 fun y μ2 => mx ρ μ2 fun z μ3 => match dictOfP x μ3, keyP y with | some kvs, some k => P ((valP kvs k).getD z) μ3 | _, _ => False
instance {td ty tx md my mx} [hd : FE K td md] [hy : FE K ty my] [hx : FE K tx mx] : FE K (tDGet2 td ty tx) (mDGet2 md my mx) := ⟨fun d σ H ρ μ P Q w e q k => by
  refine hd.run d σ H ρ μ _ _ w e q fun d1 H1 μ1 x v e1 w1 r1 ⟨q0, q1⟩ => ?_
  obtain ⟨kv0, a0⟩ := Option.isSome_iff_exists.mp q0
  obtain ⟨n, a, ws0, rfl, rfl, hn, hq0, _⟩ := dict_of w1 r1 a0
  refine ⟨a, rfl, .inl ⟨ws0, hq0⟩, hy.run d1 σ H1 ρ μ1 _ _ w1 (e.mono e1) q1 fun d2 H2 μ2 y u e2 w2 r2 q2 => ?_⟩
  refine hx.run d2 σ H2 ρ μ2 _ _ w2 (e.mono (e1.trans e2)) q2 fun d3 H3 μ3 z t e3 w3 r3 q3 => ?_
  cases a1 : dictOfP (.mr n) μ3 with
  | none => rw [a1] at q3; exact q3.elim
  | some kvs =>
    cases a2 : keyP y with
    | none => rw [a1, a2] at q3; exact q3.elim
    | some kk =>
      rw [a1, a2] at q3
      simp only at q3
      obtain ⟨n', a', ws, en, ea, _, hq, rk⟩ := dict_of w3 ((r1.mono e2).mono e3) a1
      cases ea
      obtain rfl := keyP_rv r2 a2
      rcases rk.val (k := kk) with ⟨z1, z2⟩ | ⟨x, v, z1, z2, rv⟩
      · rw [z1] at q3
        exact ⟨none, .inl ⟨ws, kk, hq, rfl, z2.symm⟩, k d3 H3 μ3 _ _ ((e1.trans e2).trans e3) w3 r3 q3⟩
      · rw [z1] at q3
        exact ⟨some v, .inl ⟨ws, kk, hq, rfl, z2.symm⟩, k d3 H3 μ3 _ _ ((e1.trans e2).trans e3) w3 rv q3⟩⟩
def rIsN : R2 := fun x y H Q => y = .non ∧ Q (.bl (decide (x = .non))) H
def rNotN : R2 := fun x y H Q => y = .non ∧ Q (.bl (!decide (x = .non))) H
end
theorem op_isNn {X : Cx} : OpR X (compareOp .Is) rIsN := op_isN
theorem op_notNn {X : Cx} : OpR X (compareOp .IsNot) rNotN := op_notN
section
variable {K : PySem.W.Frag} {d d' : Wd} {H H' : Hp} {a b : Addr} {vs us : List V} {xs ys : List PV} {μ : Store}
def isNonP : PV → Bool | .non => true | _ => false
theorem isNonP_rv {x : PV} {v : V} (r : RV K d H x v) : decide (v = .non) = isNonP x := by
  cases r <;> simp [isNonP]
def pIsN (neg : Bool) : MO2 := fun x y μ P => match y with | .non => P (.bl (if neg then !isNonP x else isNonP x)) μ | _ => False
instance : F2 K rIsN (pIsN false) := ⟨fun d H μ x y v u P Q w r1 r2 q k => by
  cases y <;> try exact q.elim
  cases r2
  refine ⟨rfl, ?_⟩
  rw [isNonP_rv r1]
  exact k d H μ _ _ .refl w (.bl _) q⟩
instance : F2 K rNotN (pIsN true) := ⟨fun d H μ x y v u P Q w r1 r2 q k => by
  cases y <;> try exact q.elim
  cases r2
  refine ⟨rfl, ?_⟩
  rw [isNonP_rv r1]
  exact k d H μ _ _ .refl w (.bl _) q⟩
end
section
variable {K : PySem.W.Frag} {d d' : Wd} {H H' : Hp} {a b : Addr} {vs us : List V} {xs ys : List PV} {μ : Store}
def pRepLM : MO2 := fun x y μ P => match x, y with
  | .lst xs, .int k => (0 ≤ k ∧ k ≤ 1000 ∧ xs.length ≤ 1000) ∧ P (.mr μ.length) (μ ++ [.lst (List.replicate k.toNat xs).flatten])
  | _, _ => False
end
section
variable {K : PySem.W.Frag} {d d' : Wd} {H H' : Hp} {a b : Addr} {vs us : List V} {xs ys : List PV} {μ : Store}
def mTruD (m : ME) : MT := fun ρ μ P => m ρ μ fun x μ1 => match dkOfP x μ1 with | some kvs => P (!kvs.isEmpty) μ1 | none => False
def pPopAt : PV → List PV → Store → (PV → Store → Prop) → Prop := fun x zs μ P => match x, zs with
  | .mr n, [.int i] => (match μ[n]? with | some (.lst xs) => xs.length ≤ 1000000 ∧ (match ixN xs.length i with | some j => (match xs[j]? with | some y => P y (μ.set n (.lst (xs.eraseIdx j))) | none => False) | none => False) | _ => False)
  | _, _ => False
theorem RVs.eraseIdx : ∀ {xs : List PV} {vs : List V} (j : Nat), RVs K d H xs vs → RVs K d H (xs.eraseIdx j) (vs.eraseIdx j)
  | _, _, _, .nil => .nil
  | _, _, 0, .cons _ t => t
  | _, _, j + 1, .cons r t => .cons r (RVs.eraseIdx j t)
instance : FM K rPopAt pPopAt := ⟨fun d H μ x v zs us P Q w r rs q k => by
  match x, zs, r, rs, q with
  | .mr n, [.int i], .mr (a := a) h1, .cons (.int _) .nil, q =>
    simp only [pPopAt] at q
    cases e : μ[n]? with
    | none => rw [e] at q; exact q.elim
    | some m =>
      cases m with
      | dk _ => rw [e] at q; exact q.elim
      | fd _ _ _ => rw [e] at q; exact q.elim
      | tk _ => rw [e] at q; exact q.elim
      | nk _ => rw [e] at q; exact q.elim
      | ft _ _ _ => rw [e] at q; exact q.elim
      | fn _ _ _ => rw [e] at q; exact q.elim
      | lst xs =>
        rw [e] at q
        simp only at q
        obtain ⟨hl, q⟩ := q
        obtain ⟨vs, hq, rv⟩ := w.obj h1 e
        cases e2 : ixN xs.length i with
        | none => rw [e2] at q; exact q.elim
        | some j =>
          rw [e2] at q
          simp only at q
          obtain ⟨s1, s2, s3, s4⟩ := ixN_seq e2
          obtain ⟨u, hu, ru⟩ := rv.get (List.getElem?_eq_getElem s2)
          rw [List.getElem?_eq_getElem s2] at q
          obtain ⟨e1, w1⟩ := chg_list (vs := vs) w h1 (rv.eraseIdx j)
          exact ⟨a, vs, i, j, u, rfl, rfl, hq, by omega, by omega, by rw [← rv.length]; exact s1, hu, k d _ _ _ _ e1 w1 (ru.mono e1) q⟩⟩
def pIndex : PV → List PV → Store → (PV → Store → Prop) → Prop := fun x zs μ P => match x, zs with
  | .mr n, [.int i] => (match μ[n]? with | some (.lst xs) => (match intsP xs with | some ns => i ∈ ns ∧ P (.int (ns.idxOf i : Nat)) μ | none => False) | _ => False)
  | _, _ => False
instance : FM K (rIndex K) pIndex := ⟨fun d H μ x v zs us P Q w r rs q k => by
  match x, zs, r, rs, q with
  | .mr n, [.int i], .mr (a := a) h1, .cons (.int _) .nil, q =>
    simp only [pIndex] at q
    cases e : μ[n]? with
    | none => rw [e] at q; exact q.elim
    | some m =>
      cases m with
      | dk _ => rw [e] at q; exact q.elim
      | fd _ _ _ => rw [e] at q; exact q.elim
      | tk _ => rw [e] at q; exact q.elim
      | nk _ => rw [e] at q; exact q.elim
      | ft _ _ _ => rw [e] at q; exact q.elim
      | fn _ _ _ => rw [e] at q; exact q.elim
      | lst xs =>
        rw [e] at q
        simp only at q
        cases e2 : intsP xs with
        | none => rw [e2] at q; exact q.elim
        | some ns =>
          rw [e2] at q
          obtain ⟨hm, q⟩ := q
          obtain ⟨vs, hq, rv⟩ := w.obj h1 e
          have ev := RVs.ints_of rv (intsP_of e2)
          subst ev
          have hl := List.idxOf_lt_length_of_mem hm
          refine ⟨a, ns.map V.int, .int i, ns.idxOf i, .int i, rfl, rfl, .of hq, rfl, ?_, ?_, ?_, fun m z' hm' hz => ?_, k d H μ _ _ .refl w (.int _) q⟩
          · rw [List.all_map, List.all_eq_true]
            intro x _
            rfl
          · rw [List.getElem?_map, List.getElem?_eq_getElem hl, List.getElem_idxOf hl]
            rfl
          · show (i == i) = true
            simp
          · have hl2 : m < ns.length := by omega
            rw [List.getElem?_map, List.getElem?_eq_getElem hl2] at hz
            have hz := Option.some.inj hz
            subst hz
            show (ns[m] == i) = false
            have h := List.not_of_lt_findIdx (xs := ns) (p := (· == i)) (i := m) hm'
            simpa using h⟩
def mLstRgM (m : PEnv → Store → (Int → Int → Store → Prop) → Prop) : ME := fun ρ μ P => m ρ μ fun i j μ1 => (-1000000 ≤ i ∧ i ≤ 1000000 ∧ -1000000 ≤ j ∧ j ≤ 1000000) ∧ P (.mr μ1.length) (μ1 ++ [.lst (rangeP i (j - i).toNat)])
end
end Fx
namespace Fx
open PySem PySem.Spec PyProof.Rows L2 RZ
abbrev tkK (k : List Int) : PV := .tup (k.map .int)
def valT (kvs : List (List Int × PV)) (k : List Int) : Option PV := (kvs.find? fun kv => decide (kv.1 = k)).map (·.2)
def putT (kvs : List (List Int × PV)) (k : List Int) (v : PV) : List (List Int × PV) :=
  if (valT kvs k).isSome then kvs.map (fun kv => if kv.1 = k then (kv.1, v) else kv) else kvs ++ [(k, v)]
def RTs (K : PySem.W.Frag) (d : Wd) (H : Hp) (kvs : List (List Int × PV)) (ks : List (List Int × Addr × V)) : Prop :=
  ks.map (·.1) = kvs.map (·.1) ∧ RVs K d H (kvs.map fun kv => .tup (kv.1.map .int)) (ks.map fun p => .ref p.2.1) ∧ RVs K d H (kvs.map (·.2)) (ks.map (·.2.2))
section
variable {K : PySem.W.Frag} {d d' : Wd} {H H' : Hp} {a b : Addr} {vs us : List V} {xs ys : List PV} {μ : Store}
theorem RTs.nil : RTs K d H [] [] := ⟨rfl, .nil, .nil⟩
theorem RTs.cases {kvs : List (List Int × PV)} {ks : List (List Int × Addr × V)} (r : RTs K d H kvs ks) : (kvs = [] ∧ ks = []) ∨ ∃ k b x v kvs' ks', kvs = (k, x) :: kvs' ∧ ks = (k, b, v) :: ks' ∧ RV K d H (tkK k) (.ref b) ∧ RV K d H x v ∧ RTs K d H kvs' ks' := by
  obtain ⟨h1, h2, h3⟩ := r
  cases kvs with
  | nil => simp at h1; exact .inl ⟨rfl, h1⟩
  | cons p kvs =>
    cases ks with
    | nil => simp at h1
    | cons q ks =>
      obtain ⟨k, x⟩ := p
      obtain ⟨k', b, v⟩ := q
      simp only [List.map_cons, List.cons.injEq] at h1
      obtain ⟨e, h1⟩ := h1
      subst e
      cases h2 with
      | cons r t =>
        cases h3 with
        | cons r3 t3 => exact .inr ⟨_, _, _, _, _, _, rfl, rfl, r, r3, h1, t, t3⟩
theorem RTs.cons {k : List Int} {b : Addr} {x : PV} {v : V} {kvs : List (List Int × PV)} {ks : List (List Int × Addr × V)} (rk : RV K d H (tkK k) (.ref b)) (r : RV K d H x v) (t : RTs K d H kvs ks) : RTs K d H ((k, x) :: kvs) ((k, b, v) :: ks) :=
  ⟨by simp only [List.map_cons, t.1], .cons rk t.2.1, .cons r t.2.2⟩
theorem RTs.mono (e : Ext d H d' H') {kvs : List (List Int × PV)} {ks : List (List Int × Addr × V)} (r : RTs K d H kvs ks) : RTs K d' H' kvs ks := ⟨r.1, r.2.1.mono e, r.2.2.mono e⟩
theorem RTs.len {kvs : List (List Int × PV)} {ks : List (List Int × Addr × V)} (r : RTs K d H kvs ks) : kvs.length = ks.length := by
  have := congrArg List.length r.1
  simpa using this.symm
theorem RTs.append {kvs kvs' : List (List Int × PV)} {ks ks' : List (List Int × Addr × V)} (r : RTs K d H kvs ks) (t : RTs K d H kvs' ks') : RTs K d H (kvs ++ kvs') (ks ++ ks') := by
  refine ⟨by rw [List.map_append, List.map_append, r.1, t.1], ?_, ?_⟩
  · rw [List.map_append, List.map_append]
    exact r.2.1.append t.2.1
  · rw [List.map_append, List.map_append]
    exact r.2.2.append t.2.2
theorem tkK_sq {k : List Int} (r : RV K d H (tkK k) (.ref b)) : SqT K H b (k.map V.int) := by
  cases r with
  | tup h1 h2 =>
    have := RVs.ints h2
    subst this
    exact h1.sq
theorem RTs.sq : ∀ {kvs : List (List Int × PV)} {ks : List (List Int × Addr × V)}, RTs K d H kvs ks → ∀ p ∈ ks, SqT K H p.2.1 (p.1.map V.int)
  | [], ks, r, p, hp => by
    rcases r.cases with ⟨_, e⟩ | ⟨_, _, _, _, _, _, e, _⟩
    · subst e; simp at hp
    · cases e
  | q :: kvs, ks, r, p, hp => by
    rcases r.cases with ⟨e, _⟩ | ⟨k, b, x, v, kvs', ks', e1, e2, r1, r2, t⟩
    · cases e
    · cases e1; subst e2
      rcases List.mem_cons.mp hp with rfl | hp
      · exact tkK_sq r1
      · exact RTs.sq t p hp
theorem RTs.val {k : List Int} : ∀ {kvs : List (List Int × PV)} {ks : List (List Int × Addr × V)}, RTs K d H kvs ks → (valT kvs k = none ∧ valX ks k = none) ∨ ∃ x v, valT kvs k = some x ∧ valX ks k = some v ∧ RV K d H x v
  | [], ks, r => by
    rcases r.cases with ⟨_, e⟩ | ⟨_, _, _, _, _, _, e, _⟩
    · subst e; exact .inl ⟨rfl, rfl⟩
    · cases e
  | p :: kvs, ks, r => by
    rcases r.cases with ⟨e, _⟩ | ⟨k', b, x, v, kvs', ks', e1, e2, r1, r2, t⟩
    · cases e
    · cases e1; subst e2
      by_cases h : k' = k
      · subst h
        exact .inr ⟨x, v, by simp [valT], by simp [valX], r2⟩
      · have := RTs.val (k := k) t
        have a1 : valT ((k', x) :: kvs) k = valT kvs k := by simp [valT, List.find?_cons, h]
        have a2 : valX ((k', b, v) :: ks') k = valX ks' k := by simp [valX, List.find?_cons, h]
        rw [a1, a2]; exact this
theorem RTs.upd1 {k : List Int} {x : PV} {v : V} (rx : RV K d H x v) : ∀ {kvs : List (List Int × PV)} {ks : List (List Int × Addr × V)}, RTs K d H kvs ks → RTs K d H (kvs.map (fun kv => if kv.1 = k then (kv.1, x) else kv)) (ks.map fun p => if p.1 = k then (p.1, p.2.1, v) else p)
  | [], ks, r => by
    rcases r.cases with ⟨_, e⟩ | ⟨_, _, _, _, _, _, e, _⟩
    · subst e; exact .nil
    · cases e
  | p :: kvs, ks, r => by
    rcases r.cases with ⟨e, _⟩ | ⟨k', b, x', v', kvs', ks', e1, e2, r1, r2, t⟩
    · cases e
    · cases e1; subst e2
      rw [List.map_cons, List.map_cons]
      by_cases h : k' = k
      · simp only [h, if_true]
        exact .cons (h ▸ r1) rx (RTs.upd1 rx t)
      · simp only [h, if_false]
        exact .cons r1 r2 (RTs.upd1 rx t)
theorem RTs.put {k : List Int} {x : PV} {v : V} (rk : RV K d H (tkK k) (.ref b)) (rx : RV K d H x v) {kvs : List (List Int × PV)} {ks : List (List Int × Addr × V)} (r : RTs K d H kvs ks) : RTs K d H (putT kvs k x) (putX ks k b v) := by
  unfold putT putX
  have e : (valT kvs k).isSome = (valX ks k).isSome := by
    rcases r.val (k := k) with ⟨z, z'⟩ | ⟨x, v, z1, z2, _⟩
    · rw [z, z']; rfl
    · rw [z1, z2]; rfl
  rw [e]
  split
  · exact r.upd1 rx
  · exact r.append (.cons rk rx .nil)
def tkP : PV → Option (List Int)
  | .tup xs => intsP xs
  | _ => none
theorem tkP_of {x : PV} {k : List Int} (h : tkP x = some k) : x = tkK k := by
  cases x <;> simp only [tkP, reduceCtorEq] at h
  rw [intsP_of h]
theorem tkP_rv {x : PV} {v : V} {k : List Int} (r : RV K d H x v) (h : tkP x = some k) : ∃ b, v = .ref b ∧ RV K d H (tkK k) (.ref b) ∧ SqT K H b (k.map V.int) := by
  have := tkP_of h
  subst this
  have r' := r
  cases r with
  | tup h1 h2 => exact ⟨_, rfl, r', tkK_sq r'⟩
def tdP (x : PV) (μ : Store) : Option (List (List Int × PV)) := match x with | .mr n => (match μ[n]? with | some (.tk kvs) => some kvs | some (.ft _ _ kvs) => some kvs | _ => none) | _ => none
theorem td_of {x : PV} {v : V} {kvs : List (List Int × PV)} (w : WOk K d H μ) (r : RV K d H x v) (h : tdP x μ = some kvs) : ∃ n a ks, x = .mr n ∧ v = .ref a ∧ d.am[n]? = some a ∧ DtAt K H a ks ∧ RTs K d H kvs ks := by
  cases r with
  | @mr n a h1 =>
    unfold tdP at h
    simp only at h
    cases e : μ[n]? with
    | none => simp [e] at h
    | some m =>
      rw [e] at h
      cases m with
      | lst zs => cases h
      | dk zs => cases h
      | fd _ _ _ => cases h
      | nk _ => cases h
      | fn _ _ _ => cases h
      | tk zs =>
        injection h with h
        subst h
        obtain ⟨ks, q, r⟩ := w.obj h1 e
        have r : RTs K d H zs ks := r
        exact ⟨n, a, ks, rfl, rfl, h1, ⟨.inl q, r.sq⟩, r⟩
      | ft o ks zs =>
        injection h with h
        subst h
        obtain ⟨q, r⟩ := w.obj h1 e
        have r : RTs K d H zs ks := r
        exact ⟨n, a, ks, rfl, rfl, h1, ⟨.inr ⟨o, q⟩, r.sq⟩, r⟩
  | _ => cases h
def mDNewT : ME := fun _ μ P => P (.mr μ.length) (μ ++ [.tk []])
instance : FE K tDNewX mDNewT := ⟨fun d σ H ρ μ P Q w e q k => fun p hp => by
  have ee := Ext.push (o := DtO p []) w hp
  exact k (d.push p) _ _ _ _ ee (w.push (m := .tk []) hp ⟨[], upd_same, rfl, .nil, .nil⟩) (lay_mr w) q⟩
def mDGetT (md my : ME) : ME := fun ρ μ P => md ρ μ fun x μ1 => my ρ μ1 fun y μ2 => match tdP x μ2, tkP y with | some kvs, some k => (match valT kvs k with | some v => P v μ2 | none => False) | _, _ => False
instance {td ty md my} [hd : FE K td md] [hy : FE K ty my] : FE K (tDGetX K td ty) (mDGetT md my) := ⟨fun d σ H ρ μ P Q w e q k => by
  refine hd.run d σ H ρ μ _ _ w e q fun d1 H1 μ1 x v e1 w1 r1 q1 => ?_
  refine hy.run d1 σ H1 ρ μ1 _ _ w1 (e.mono e1) q1 fun d2 H2 μ2 y u e2 w2 r2 q2 => ?_
  cases a1 : tdP x μ2 with
  | none => rw [a1] at q2; exact q2.elim
  | some kvs =>
    cases a2 : tkP y with
    | none => rw [a1, a2] at q2; exact q2.elim
    | some kk =>
      rw [a1, a2] at q2
      simp only at q2
      obtain ⟨n, a, ks, rfl, rfl, _, hq, rk⟩ := td_of w2 (r1.mono e2) a1
      obtain ⟨b, rfl, rb, sb⟩ := tkP_rv r2 a2
      rcases rk.val (k := kk) with ⟨z, _⟩ | ⟨x, v, z1, z2, rv⟩
      · rw [z] at q2; exact q2.elim
      · rw [z1] at q2
        exact ⟨a, ks, b, kk, v, rfl, rfl, hq, sb, z2, k d2 H2 μ2 _ _ (e1.trans e2) w2 rv q2⟩⟩
def mDGet2T (md my mx : ME) : ME := fun ρ μ P => md ρ μ fun x μ1 => (tdP x μ1).isSome = true ∧ my ρ μ1 fun y μ2 => mx ρ μ2 fun z μ3 => match tdP x μ3, tkP y with | some kvs, some k => P ((valT kvs k).getD z) μ3 | _, _ => False
instance {td ty tx md my mx} [hd : FE K td md] [hy : FE K ty my] [hx : FE K tx mx] : FE K (tDGet2X K td ty tx) (mDGet2T md my mx) := ⟨fun d σ H ρ μ P Q w e q k => by
  refine hd.run d σ H ρ μ _ _ w e q fun d1 H1 μ1 x v e1 w1 r1 ⟨q0, q1⟩ => ?_
  obtain ⟨kv0, a0⟩ := Option.isSome_iff_exists.mp q0
  obtain ⟨n, a, ks0, rfl, rfl, hn, hq0, _⟩ := td_of w1 r1 a0
  refine ⟨a, ks0, rfl, hq0.1, hy.run d1 σ H1 ρ μ1 _ _ w1 (e.mono e1) q1 fun d2 H2 μ2 y u e2 w2 r2 q2 => ?_⟩
  refine hx.run d2 σ H2 ρ μ2 _ _ w2 (e.mono (e1.trans e2)) q2 fun d3 H3 μ3 z t e3 w3 r3 q3 => ?_
  cases a1 : tdP (.mr n) μ3 with
  | none => rw [a1] at q3; exact q3.elim
  | some kvs =>
    cases a2 : tkP y with
    | none => rw [a1, a2] at q3; exact q3.elim
    | some kk =>
      rw [a1, a2] at q3
      simp only at q3
      obtain ⟨n', a', ks, en, ea, _, hq, rk⟩ := td_of w3 ((r1.mono e2).mono e3) a1
      cases ea
      obtain ⟨b, rfl, rb, sb⟩ := tkP_rv (r2.mono e3) a2
      refine ⟨ks, b, kk, rfl, hq, sb, ?_⟩
      rcases rk.val (k := kk) with ⟨z1, z2⟩ | ⟨x, v, z1, z2, rv⟩
      · rw [z1] at q3
        rw [z2]
        exact k d3 H3 μ3 _ _ ((e1.trans e2).trans e3) w3 r3 q3
      · rw [z1] at q3
        rw [z2]
        exact k d3 H3 μ3 _ _ ((e1.trans e2).trans e3) w3 rv q3⟩
def mDInT (my md : ME) : ME := fun ρ μ P => my ρ μ fun y μ1 => md ρ μ1 fun x μ2 => match tdP x μ2, tkP y with | some kvs, some k => P (.bl (valT kvs k).isSome) μ2 | _, _ => False
def mDPutT (md my mv : ME) : MS := fun P ρ μ => mv ρ μ fun z μ1 => md ρ μ1 fun x μ2 => my ρ μ2 fun y μ3 => match x, tkP y with | .mr n, some k => (match μ3[n]? with | some (.tk kvs) => kvs.length ≤ lim ∧ P.nx ρ (μ3.set n (.tk (putT kvs k z))) | _ => False) | _, _ => False
instance {td ty tv md my mv} [hd : FE K td md] [hy : FE K ty my] [hv : FE K tv mv] : FS K (sDPutX K td ty tv) (mDPutT md my mv) := ⟨fun d σ H ρ μ P D w e q l => by
  refine hv.run d σ H ρ μ _ _ w e q fun d1 H1 μ1 z t e1 w1 r1 q1 => ?_
  refine hd.run d1 σ H1 ρ μ1 _ _ w1 (e.mono e1) q1 fun d2 H2 μ2 x v e2 w2 r2 q2 => ?_
  refine hy.run d2 σ H2 ρ μ2 _ _ w2 (e.mono (e1.trans e2)) q2 fun d3 H3 μ3 y u e3 w3 r3 q3 => ?_
  cases r2 with
  | @mr n a h1 =>
    cases a2 : tkP y with
    | none => rw [a2] at q3; exact q3.elim
    | some kk =>
      rw [a2] at q3
      simp only at q3
      split at q3
      · rename_i kvs a3
        have h3 := e3.at h1
        obtain ⟨ks, hq, rk⟩ := w3.obj h3 a3
        have rk : RTs K d3 H3 kvs ks := rk
        obtain ⟨b, rfl, rb, sb⟩ := tkP_rv r3 a2
        have ha : a ∈ d3.am := List.mem_of_getElem? h3
        have ee : Ext d3 H3 d3 (upd H3 a (DtO a (putX ks kk b t))) := Ext.chg ha
        have rk' := (rk.put rb (r1.mono (e2.trans e3))).mono ee
        refine ⟨a, ks, b, kk, rfl, rfl, hq, rk.sq, by rw [← rk.len]; exact lim_lt' q3.1, sb, ?_⟩
        exact l.nx d3 σ _ ρ _ (((e1.trans e2).trans e3).trans ee) (w3.chg (m := .tk (putT kvs kk z)) h3 ⟨_, upd_same, rk'⟩) (e.mono (((e1.trans e2).trans e3).trans ee)) q3.2
      · exact q3.elim
  | _ => exact q3.elim⟩
end
section
variable {K : PySem.W.Frag} {d d' : Wd} {H H' : Hp} {a b : Addr} {vs us : List V} {xs ys : List PV} {μ : Store}
def mLockX (i : Nat) (mb : MS) : MS := fun P ρ μ => match ρ[i]? with
  | some (some (.mr n)) => (match μ[n]? with
    | some (.tk kvs) => ∀ o ks, mb { nx := fun ρ' μ' => μ'[n]? = some (.ft o ks kvs) ∧ P.nx ρ' (μ'.set n (.tk kvs)), rt := fun x μ' => μ'[n]? = some (.ft o ks kvs) ∧ P.rt x (μ'.set n (.tk kvs)), bk := fun ρ' μ' => μ'[n]? = some (.ft o ks kvs) ∧ P.bk ρ' (μ'.set n (.tk kvs)), ct := fun ρ' μ' => μ'[n]? = some (.ft o ks kvs) ∧ P.ct ρ' (μ'.set n (.tk kvs)) } ρ (μ.set n (.ft o ks kvs))
    | _ => False)
  | _ => False
def mLockEX (i : Nat) (me : ME) : ME := fun ρ μ P => match ρ[i]? with
  | some (some (.mr n)) => (match μ[n]? with
    | some (.tk kvs) => ∀ o ks, me ρ (μ.set n (.ft o ks kvs)) fun x μ' => μ'[n]? = some (.ft o ks kvs) ∧ P x (μ'.set n (.tk kvs))
    | _ => False)
  | _ => False
def mKeysX (m : ME) : MIC := fun ρ μ P => m ρ μ fun x μ1 => match x with | .mr n => (match μ1[n]? with | some (.ft o ks kvs) => P (kvs.map fun kv => tkK kv.1) (fun μ2 => μ2[n]? = some (.ft o ks kvs)) μ1 | _ => False) | _ => False
def pLstX : MB := fun xs μ P => match xs with | [x] => (match tdP x μ with | some kvs => P (.lst (kvs.map fun kv => tkK kv.1)) μ | none => False) | _ => False
def pLenX : MB := fun xs μ P => match xs with | [x] => (match tdP x μ with | some kvs => P (.int (kvs.length : Nat)) μ | none => False) | _ => False
end
end Fx
namespace Fx
open PySem PySem.Spec PyProof.Rows L2 RZ MR
def frP (q : Rat) : PV := .tup [.int q.num, .int (q.den : Nat)]
def tabP (qs : List Rat) : PV := .tup (qs.map frP)
def lotP (ns : List Nat) : PV := .tup (ns.map fun (n : Nat) => PV.int n)
def seqP : PV → Option (List PV)
  | .tup xs => some xs
  | .lst xs => some xs
  | _ => none
theorem log_lt {x : Int} {n : Nat} (h : x.natAbs < 2 ^ n) : x.natAbs.log2 < n + 1 := by
  by_cases h0 : x.natAbs = 0
  · rw [h0]; show Nat.log2 0 < n + 1; rw [Nat.log2_zero]; omega
  · have := (Nat.log2_lt h0).mpr h
    omega
theorem mulOk {x y : Int} {m n : Nat} (hx : x.natAbs < 2 ^ m) (hy : y.natAbs < 2 ^ n) (h : m + n ≤ 90000000) : MulOk x y := by
  have h1 := log_lt hx
  have h2 := log_lt hy
  exact .inr (show _ + _ < _ by omega)
theorem eqP_tup2 (a b c d : Int) (μ : Store) : eqP (.tup [.int a, .int b]) (.tup [.int c, .int d]) μ = some (decide (a = c ∧ b = d)) := by
  have h : ∀ x y : Int, SeqAt.shaped (.tuple [.int x, .int y]) = true := fun x y => rfl
  unfold eqP
  simp only [scalP, frzP, datP, datPs, Option.map_some, h, and_self, if_true]
  simp only [PyData.eqv, PyData.eqvAll]
  congr 1
  by_cases h1 : a = c <;> by_cases h2 : b = d <;> simp [h1, h2]
theorem kit_tt : kitB "tuple" "tuple" = some true := rfl
theorem kit_ii : kitB "int" "int" = some true := rfl
theorem kit_ib : kitB "int" "bool" = some false := rfl
theorem eqP_int (a b : Int) (μ : Store) : eqP (.int a) (.int b) μ = some (decide (a = b)) := rfl
theorem eqP_str (a b : Str) (μ : Store) : eqP (.str a) (.str b) μ = some (decide (a = b)) := rfl
def DK (l : PV) (m k : Int) : List (Key × PV) := [(.inr (Str.ofString "cells"), l), (.inr (Str.ofString "mixed"), .int m), (.inr (Str.ofString "draws"), .int k)]
theorem val_left (l : PV) (m k : Int) : valP (DK l m k) (.inr (Str.ofString "cells")) = some l := rfl
theorem val_mixed (l : PV) (m k : Int) : valP (DK l m k) (.inr (Str.ofString "mixed")) = some (.int m) := by
  have h : (Str.ofString "cells" = Str.ofString "mixed") = False := by decide
  simp [DK, valP, h]
theorem val_draws (l : PV) (m k : Int) : valP (DK l m k) (.inr (Str.ofString "draws")) = some (.int k) := by
  have h : (Str.ofString "cells" = Str.ofString "draws") = False := by decide
  have h2 : (Str.ofString "mixed" = Str.ofString "draws") = False := by decide
  simp [DK, valP, h, h2]
theorem put_draws (l : PV) (m k j : Int) : putP (DK l m k) (.inr (Str.ofString "draws")) (.int j) = DK l m j := by
  have h : (Str.ofString "cells" = Str.ofString "draws") = False := by decide
  have h2 : (Str.ofString "mixed" = Str.ofString "draws") = False := by decide
  simp [DK, putP, h, h2]
def DS (L : List Int) (m k : Int) (rest : Store) : Store := .lst (L.map PV.int) :: .dk (DK (.mr 0) m k) :: rest
theorem datPs_ints : ∀ L : List Int, datPs (L.map PV.int) = some (L.map PyData.int)
  | [] => rfl
  | x :: xs => by simp [datPs, datP, datPs_ints xs]
theorem canLay_ints : ∀ L : List Int, PyData.canLayAll0 (L.map PyData.int) = true
  | [] => rfl
  | x :: xs => by simp [PyData.canLayAll0, PyData.canLay0, canLay_ints xs]
theorem depth_ints : ∀ L : List Int, PyData.depthAll (L.map PyData.int) ≤ 1
  | [] => by simp [PyData.depthAll]
  | x :: xs => by
    have := depth_ints xs
    simp [PyData.depthAll, PyData.depth]
    omega
theorem shaped_ints (L : List Int) : SeqAt.shaped (.list (L.map PyData.int)) = true := by
  have := depth_ints L
  simp [SeqAt.shaped, PyData.canLay0, canLay_ints, PyData.depth]
  omega
theorem eqP_empty {n : Nat} {μ : Store} {L : List Int} (h : μ[n]? = some (.lst (L.map PV.int))) : eqP (.mr n) (.lst []) μ = some (decide (L = [])) := by
  have h1 := shaped_ints L
  have h2 := shaped_ints []
  simp only [List.map_nil] at h2
  unfold eqP
  simp only [scalP, frzP, h, datP, datPs_ints, datPs, Option.map_some, h1, h2, and_self, if_true]
  congr 1
  cases L <;> simp [PyData.eqv, PyData.eqvAll]
theorem eqP_e0 (L : List Int) (rest : Store) : eqP (.mr 0) (.lst []) (.lst (L.map PV.int) :: rest) = some (decide (L = [])) := eqP_empty rfl
theorem mulR {x c : Int} (h1 : -2 ^ 64 < c) (h2 : c < 2 ^ 64) : MulOk x c := .inl (.inr ⟨h1, h2⟩)
theorem mulL {x c : Int} (h1 : -2 ^ 64 < c) (h2 : c < 2 ^ 64) : MulOk c x := .inl (.inl ⟨h1, h2⟩)
theorem fmod_b {x m : Int} (h : 0 < m) : 0 ≤ x.fmod m ∧ x.fmod m < m := ⟨Int.fmod_nonneg_of_pos x h, Int.fmod_lt_of_pos x h⟩
theorem max2_pos (m : Int) : (0 : Int) < (if m > 2 then m else 2) := by split <;> omega
theorem eqP_nn (rest : Store) : eqP (.mr 0) (.lst []) (.lst [] :: rest) = some true := eqP_e0 [] rest
theorem eqP_nc (I : List Int) (c : Int) (rest : Store) : eqP (.mr 0) (.lst []) (.lst (I.map PV.int ++ [.int c]) :: rest) = some false := by
  have := eqP_e0 (I ++ [c]) rest
  simpa using this
theorem last_c (xs : List PV) (y : PV) : (xs ++ [y])[(xs ++ [y]).length - 1]? = some y := by simp
theorem sIx_nat (a d n : Nat) : HT.sIx a d (some (n : Int)) = min n a := by
  unfold HT.sIx
  simp only
  rw [if_neg (by omega), Int.toNat_natCast]
theorem sIx_none (a d : Nat) : HT.sIx a d none = d := rfl
theorem cut_to (xs : List PV) (n : Nat) : cutP xs none (some (n : Int)) = xs.take n := by
  unfold cutP
  rw [sIx_none, sIx_nat, List.drop_zero, Nat.sub_zero]
  by_cases h : n ≤ xs.length
  · rw [Nat.min_eq_left h]
  · rw [Nat.min_eq_right (by omega), List.take_of_length_le (Nat.le_refl _), List.take_of_length_le (by omega)]
theorem cut_from (xs : List PV) (n : Nat) : cutP xs (some (n : Int)) none = xs.drop n := by
  unfold cutP
  rw [sIx_none, sIx_nat]
  by_cases h : n ≤ xs.length
  · rw [Nat.min_eq_left h, List.take_of_length_le (by simp)]
  · rw [Nat.min_eq_right (by omega), Nat.sub_self, List.take_zero, List.drop_of_length_le (by omega)]
def ShB (d l : Nat) (x : PV) : Prop := ∃ e, datP x = some e ∧ e.showable = true ∧ e.hasDict = false ∧ e.depth ≤ d ∧ e.shown.length ≤ l
def shwP (x : PV) : Str := match datP x with | some e => e.shown | none => ""
theorem ShB.mono {d l d' l' : Nat} {x : PV} (h : ShB d l x) (h1 : d ≤ d') (h2 : l ≤ l') : ShB d' l' x :=
  let ⟨e, a, b, c, f, g⟩ := h; ⟨e, a, b, c, by omega, by omega⟩
theorem shb_all {d l : Nat} : ∀ {xs : List PV}, (∀ x ∈ xs, ShB d l x) → ∃ es, datPs xs = some es ∧ PyData.showableAll es = true ∧ PyData.hasDictAll es = false ∧ PyData.depthAll es ≤ d ∧ ((PyData.shownAll es).map (·.length)).sum ≤ xs.length * l ∧ (PyData.shownAll es).length = xs.length
  | [], _ => ⟨[], rfl, by simp [PyData.showableAll], by simp [PyData.hasDictAll], by simp [PyData.depthAll], by simp [PyData.shownAll], by simp [PyData.shownAll]⟩
  | x :: xs, h => by
    obtain ⟨e, a1, a2, a3, a4, a5⟩ := h x List.mem_cons_self
    obtain ⟨es, b1, b2, b3, b4, b5, b6⟩ := shb_all fun y hy => h y (List.mem_cons_of_mem _ hy)
    refine ⟨e :: es, by simp [datPs, a1, b1], by simp [PyData.showableAll, a2, b2], by simp [PyData.hasDictAll, a3, b3], ?_, ?_, ?_⟩
    · simp only [PyData.depthAll]; omega
    · simp only [PyData.shownAll, List.map_cons, List.sum_cons, List.length_cons, Nat.add_mul, Nat.one_mul]; omega
    · simp only [PyData.shownAll, List.length_cons]; omega
theorem shb_tup {d l : Nat} {xs : List PV} (h : ∀ x ∈ xs, ShB d l x) : ShB (d + 1) (xs.length * (l + 2) + 3) (.tup xs) := by
  obtain ⟨es, b1, b2, b3, b4, b5, b6⟩ := shb_all h
  refine ⟨.tuple es, by simp [datP, b1], by simp [PyData.showable, b2], by simp [PyData.hasDict, b3], by simp only [PyData.depth]; omega, ?_⟩
  have := tupleText_len_le (PyData.shownAll es)
  show (tupleText (PyData.shownAll es)).length ≤ _
  rw [Nat.mul_add]
  rw [b6] at this
  omega
theorem pRepr_tup {xs : List PV} {d l : Nat} {μ : Store} {P : PV → Store → Prop} (h : ShB d l (.tup xs)) (hd : d ≤ 60) (hl : l ≤ lim) (hP : P (.str (shwP (.tup xs))) μ) : pRepr [.tup xs] μ P := by
  obtain ⟨e, a1, a2, a3, a4, a5⟩ := h
  have e1 : datP (frzP (.tup xs) μ) = some e := a1
  have e2 : shwP (.tup xs) = e.shown := by unfold shwP; rw [a1]
  have hs : isSeqD e = true := by
    simp only [datP] at a1
    cases z : datPs xs with
    | none => rw [z] at a1; cases a1
    | some es => rw [z] at a1; cases a1; rfl
  unfold pRepr
  simp only [e1]
  rw [e2] at hP
  exact ⟨⟨hs, a2, a3, by omega, by omega⟩, hP⟩
theorem noRef_lot (ns : List Nat) : noRef (lotP ns) = true := by
  unfold lotP
  show noRefs _ = true
  induction ns with
  | nil => rfl
  | cons n ns ih => rw [List.map_cons, noRefs, ih]; rfl
def Dk (m : Int) (rest : Store) (μ : Store) : Prop := ∃ (L : List Int) (k : Int), L.length ≤ 63 ∧ μ = DS L m k rest
theorem Dk.len {m : Int} {rest μ : Store} (h : Dk m rest μ) : μ.length = rest.length + 2 := by
  obtain ⟨L, k, _, rfl⟩ := h; rfl
theorem Dk.get {m : Int} {rest μ : Store} (h : Dk m rest μ) (j : Nat) : μ[j + 2]? = rest[j]? := by
  obtain ⟨L, k, _, rfl⟩ := h; rfl
theorem Dk.set {m : Int} {rest μ : Store} (h : Dk m rest μ) (j : Nat) (x : MO) : Dk m (rest.set j x) (μ.set (j + 2) x) := by
  obtain ⟨L, k, h1, rfl⟩ := h
  exact ⟨L, k, h1, rfl⟩
theorem getl {α : Type} (μ : List α) (x : α) : (μ ++ [x])[μ.length]? = some x := by simp
theorem setl {α : Type} (μ : List α) (x y : α) : (μ ++ [x]).set μ.length y = μ ++ [y] := by simp
theorem items_tup (xs : List PV) (μ : Store) : itemsOf (.tup xs) μ = some xs := rfl
theorem items_lst (xs : List PV) (μ : Store) : itemsOf (.lst xs) μ = some xs := rfl
theorem items_kl (xs : List PV) (μ : Store) : itemsOf (.kl xs) μ = some xs := rfl
theorem items_mr (n : Nat) (μ : Store) : itemsOf (.mr n) μ = match μ[n]? with | some (.lst xs) => some xs | _ => none := rfl
theorem items_tab (qs : List Rat) (μ : Store) : itemsOf (tabP qs) μ = some (qs.map frP) := rfl
theorem items_lot (ns : List Nat) (μ : Store) : itemsOf (lotP ns) μ = some (ns.map fun (n : Nat) => PV.int n) := rfl
theorem items_fr (q : Rat) (μ : Store) : itemsOf (frP q) μ = some [.int q.num, .int (q.den : Nat)] := rfl
theorem eqP_bl (a b : Bool) (μ : Store) : eqP (.bl a) (.bl b) μ = some (decide (a = b)) := rfl
end Fx
namespace Fx
open PySem PySem.Spec PyProof.Rows L2 RZ MR
theorem bools_out {α : Type} (l : List α) (f : α → Bool) : boolsP (([] : List PV) ++ l.map fun a => PV.bl (f a)) = some (l.map f) := by
  have := boolsP_map (l.map f)
  rw [List.map_map] at this
  exact this
theorem all_out {α : Type} (l : List α) (f : α → Bool) : (l.map f).all id = l.all f := by rw [List.all_map]; rfl
def zs (ns : List Nat) : List Int := ns.map fun (n : Nat) => (n : Int)
theorem lot_ints (ns : List Nat) : lotP ns = .tup ((zs ns).map PV.int) := by
  unfold lotP zs
  rw [List.map_map]
  rfl
theorem zs_length (ns : List Nat) : (zs ns).length = ns.length := by simp [zs]
theorem shb_small {k : Nat} {i : Int} (h : i.natAbs < 2 ^ k) (h1 : 1 ≤ k) (h2 : k ≤ 1900) : ShB 0 (k + 1) (.int i) := by
  refine ⟨.int i, rfl, ?_, by simp [PyData.hasDict], by simp [PyData.depth], ?_⟩
  · have := log_lt h
    simp only [PyData.showable, decide_eq_true_eq]
    omega
  · have := int_text_length_le10 (a := i) (k := k) h1 (Nat.lt_of_lt_of_le h (Nat.pow_le_pow_left (by decide) k))
    rw [PyData.shown_int, PySem.ofString_length]
    exact this
theorem while_inv {c : MT} {b : MS} {P : MEnds} {ρ : PEnv} {μ : Store} (W : Nat → PEnv → Store → Prop) {n : Nat} (h0 : W n ρ μ) (hs : ∀ n ρ μ, W n ρ μ →
    c ρ μ fun x μ1 => if x = true then b { P with nx := fun ρ' μ' => ∃ n', n' < n ∧ W n' ρ' μ', ct := fun ρ' μ' => ∃ n', n' < n ∧ W n' ρ' μ', bk := P.nx } ρ μ1 else P.nx ρ μ1) : mWhile c b P ρ μ := ⟨W, ⟨n, h0⟩, hs⟩
theorem bits_all (A : List Nat) : (zs A).all (fun i => decide ((0 : Int) ≤ i) && decide (i ≤ (1 : Int))) = A.all (· < 2) := by
  unfold zs
  rw [List.all_map]
  congr 1
  funext n
  simp [Function.comp]
  omega
theorem stm_of {a b : MS} {P : MEnds} {ρ : PEnv} {μ : Store} (h : ∀ R : PEnv → Store → Prop, R = b P → a { P with nx := R } ρ μ) : mSeq a b P ρ μ := h _ rfl
end Fx
namespace Fx
open PySem PySem.Spec PyProof.Rows L2 RZ MR
def rowsD (r : Rows) : List (Key × PV) := r.map fun p => ((.inl (p.1 : Nat) : Key), PV.int (p.2 : Nat))
section
variable {α : Type} {C : Store → Prop} {g : MG} {b : MS} {P : MEnds}
end
theorem set_get {μ : Store} {r : Nat} (h : r < μ.length) (z : MO) : (μ.set r z)[r]? = some z := by
  rw [List.getElem?_set_self h]
theorem app_get {μ : Store} {r : Nat} {y : MO} (h : μ[r]? = some y) (g : Store) : (μ ++ g)[r]? = some y := by
  rw [List.getElem?_append_left (List.getElem?_eq_some_iff.mp h).1]
  exact h
theorem str_to : (Str.ofString "toss" = Str.ofString "out") = False := by simp only [eq_iff_iff, iff_false]; decide +kernel
theorem str_ot : (Str.ofString "out" = Str.ofString "toss") = False := by simp only [eq_iff_iff, iff_false]; decide +kernel
theorem lot_snoc (l : List Nat) (d : Nat) : PV.tup ((l.map fun (n : Nat) => PV.int n) ++ [.int (d : Nat)]) = lotP (l ++ [d]) := by
  unfold lotP
  rw [List.map_append]
  rfl
structure CountI (S : Mch) (n b j : Nat) (ks : List Nat) (p : Nat) (μ : Store) : Prop where
  fnd : μ[b + 1]? = some (.lst (ks.map .mr))
  len : ks.length = j
  end_ : ∀ (i k : Nat), ks[i]? = some k → μ[k]? = some (.lst ((List.range n).map fun x => .int (endN S x i 0 : Nat))) ∧ b + 2 ≤ k
  now : μ[p]? = some (.dk (rowsD (rowsAt S j)))
  np : b ≤ p ∧ p ≠ b + 1
theorem set_off (μ h : Store) (z : MO) : (μ ++ h).set (μ.length + 1) z = μ ++ h.set 1 z := by
  rw [List.set_append_right _ _ (by omega)]
  congr 2
  omega
theorem CountI.start (S : Mch) (n : Nat) (μ : Store) : CountI S n μ.length 0 [] μ.length (μ ++ [.dk (rowsD (rowsAt S 0)), .lst []]) := by
  refine ⟨?_, rfl, fun i k h => by simp at h, ?_, Nat.le_refl _, by omega⟩
  · rw [List.getElem?_append_right (by omega)]
    simp
  · rw [List.getElem?_append_right (by omega)]
    simp
theorem CountI.next {S : Mch} {n j p : Nat} {μ h : Store} {ks : List Nat} (hC : CountI S n μ.length j ks p (μ ++ h)) :
    CountI S n μ.length (j + 1) (ks ++ [(μ ++ h).length]) ((μ ++ h).length + 1) (μ ++ (h.set 1 (.lst (ks.map .mr ++ [.mr (μ ++ h).length])) ++ [.lst ((List.range n).map fun x => .int (endN S x j 0 : Nat)), .dk (rowsD (rowsAt S (j + 1)))])) := by
  have hl := (List.getElem?_eq_some_iff.mp hC.fnd).1
  have hl2 : 1 < h.length := by rw [List.length_append] at hl; omega
  have e : μ ++ (h.set 1 (.lst (ks.map .mr ++ [.mr (μ ++ h).length])) ++ [MO.lst ((List.range n).map fun x => .int (endN S x j 0 : Nat)), .dk (rowsD (rowsAt S (j + 1)))]) = (μ ++ h).set (μ.length + 1) (.lst (ks.map .mr ++ [.mr (μ ++ h).length])) ++ [MO.lst ((List.range n).map fun x => .int (endN S x j 0 : Nat)), .dk (rowsD (rowsAt S (j + 1)))] := by
    rw [set_off, List.append_assoc]
  rw [e]
  have hsl : ((μ ++ h).set (μ.length + 1) (.lst (ks.map .mr ++ [.mr (μ ++ h).length]))).length = (μ ++ h).length := List.length_set
  refine ⟨?_, by rw [List.length_append, hC.len]; rfl, fun i k hk => ?_, ?_, ?_⟩
  · rw [app_get (set_get hl _)]
    rw [List.map_append]
    rfl
  · by_cases hi : i < ks.length
    · rw [List.getElem?_append_left hi] at hk
      obtain ⟨h1, h2⟩ := hC.end_ i k hk
      refine ⟨?_, h2⟩
      refine app_get ?_ _
      rw [List.getElem?_set_ne (by omega)]
      exact h1
    · rw [List.getElem?_append_right (by omega)] at hk
      have hij : i = ks.length := by
        have := (List.getElem?_eq_some_iff.mp hk).1
        simp at this
        omega
      subst hij
      rw [Nat.sub_self] at hk
      have hk : (μ ++ h).length = k := by simpa using hk
      subst hk
      refine ⟨?_, by rw [List.length_append]; omega⟩
      rw [List.getElem?_append_right (by omega), hsl, Nat.sub_self, hC.len]
      rfl
  · rw [List.getElem?_append_right (by omega), hsl]
    simp
  · rw [List.length_append]
    omega
end Fx
namespace Fx
open PySem PySem.Spec PyProof.Rows L2 RZ
section
variable {P : Program} {w : World} {A : Around} {E : Value → Shared → Prop} {s : Shared}
abbrev bare (w : World) : Obj := { cls := .type "set", dict := none, data := .set #[] 0 (.fresh 0 0 (!w.params.followText "set-order")) }
end
end Fx
namespace Fx
open PySem PySem.Spec PyProof.Rows L2 RZ
section
variable {K : PySem.W.Frag}
def mSortSetL (m : ME) : ME := fun ρ μ P => m ρ μ fun x μ1 => match x with | .lst ys => (match intsP ys with | some ns => ns.length < 63 ∧ ∀ ms : List Int, ms.Pairwise (· < ·) → (∀ k : Int, k ∈ ms ↔ k ∈ ns) → P (.lst (ms.map PV.int)) μ1 | none => False) | _ => False
end
open MR
end Fx
namespace Fx
open PySem PySem.Spec PyProof.Rows L2 RZ MR
inductive PT (K : PySem.W.Frag) (H : Hp) : List V → List (Int × Int) → Prop
  | nil : PT K H [] []
  | cons {x : V} {p : Int × Int} {xs : List V} {ps : List (Int × Int)} : Dp K H x (.tuple [.int p.1, .int p.2]) → PT K H xs ps → PT K H (x :: xs) (p :: ps)
theorem PT.get {K : PySem.W.Frag} {H : Hp} : ∀ {xs : List V} {ps : List (Int × Int)} {i : Nat} {x : V}, PT K H xs ps → xs[i]? = some x → ∃ p, ps[i]? = some p ∧ Dp K H x (.tuple [.int p.1, .int p.2])
  | _, _, _, _, .nil, h => by simp at h
  | _, _, 0, _, .cons r _, h => by
    simp at h; subst h; exact ⟨_, rfl, r⟩
  | _, _, i + 1, _, .cons _ t, h => by
    obtain ⟨v, e, r⟩ := PT.get (i := i) t (by simpa using h)
    exact ⟨v, by simpa using e, r⟩
def pairsP : List PV → Option (List (Int × Int))
  | [] => some []
  | .tup [.int i, .int j] :: xs => (pairsP xs).map ((i, j) :: ·)
  | _ => none
def pMaxT (f : Int × Int → List (Int × Int) → Int × Int) : MB := fun xs μ P => match xs with | [.lst ys] => (match pairsP ys with | some (p :: ps) => P (.tup [.int (f p ps).1, .int (f p ps).2]) μ | _ => False) | _ => False
section
variable {K : PySem.W.Frag} {d : Wd} {H : Hp} {μ : Store}
end
section
variable {K : PySem.W.Frag} {d : Wd} {H : Hp} {μ : Store}
def pairV (p : Int × Int) : PV := .tup [.int p.1, .int p.2]
def lexP (p q : Int × Int) : Prop := p.1 < q.1 ∨ p.1 = q.1 ∧ p.2 ≤ q.2
def pSortT : MB := fun xs μ P => match xs with | [.lst ys] => (match pairsP ys with | some ps => ps.length < 64 ∧ (∀ p ∈ ps, 0 ≤ p.1 ∧ p.1 < 1000 ∧ 0 ≤ p.2 ∧ p.2 < 1000) ∧ ∀ qs : List (Int × Int), qs.Perm ps → qs.Pairwise lexP → P (.lst (qs.map pairV)) μ | none => False) | _ => False
end
end Fx
namespace MR
def wadd (t : Nat) (x : Nat × Nat × Nat × Nat) : Nat × Nat × Nat × Nat := (x.1, x.2.1, x.2.2.1, t + x.2.2.2)
def wlm (W n m : Nat) : Nat := if W ≤ m then m - m / n * n else m
def wlr (W n m r : Nat) : Nat := if W ≤ m then r - m / n * n else r
def wnt (W n : Nat) : List Nat → Nat → Nat → Option (Nat × Nat × Nat × Nat)
  | [], m, r => if W ≤ m ∧ r < m / n * n then some (r % n, m / n, r / n, 0) else none
  | b :: bs, m, r => if W ≤ m ∧ r < m / n * n then some (r % n, m / n, r / n, 0) else (wnt W n bs (2 * wlm W n m) (2 * wlr W n m r + b)).map (wadd 1)
section
variable {W n m r : Nat}
theorem wnt_acc (bs : List Nat) (h1 : W ≤ m) (h2 : r < m / n * n) : wnt W n bs m r = some (r % n, m / n, r / n, 0) := by
  cases bs <;> simp [wnt, h1, h2]
theorem wnt_bit (b : Nat) (bs : List Nat) (h1 : m < W) : wnt W n (b :: bs) m r = (wnt W n bs (2 * m) (2 * r + b)).map (wadd 1) := by
  have h : ¬ W ≤ m := by omega
  simp [wnt, h, wlm, wlr]
theorem wnt_nil (h1 : m < W) : wnt W n [] m r = none := by
  have h : ¬ W ≤ m := by omega
  simp [wnt, h]
theorem mod_lt' (h0 : 0 < n) : m - m / n * n < n := by
  have h1 := Nat.mod_lt m h0
  have h2 := Nat.div_add_mod m n
  rw [Nat.mul_comm] at h2
  omega
theorem wnt_rej (bs : List Nat) (h0 : 0 < n) (hn : n ≤ W) (h1 : W ≤ m) (h2 : ¬ r < m / n * n) : wnt W n bs m r = wnt W n bs (m - m / n * n) (r - m / n * n) := by
  have h3 : m - m / n * n < n := mod_lt' h0
  have h4 : ¬ W ≤ m - m / n * n := by omega
  cases bs <;> simp [wnt, h1, h2, h4, wlm, wlr]
def wntT (W n : Nat) (bs : List Nat) (t m r : Nat) : Option (Nat × Nat × Nat × Nat) := (wnt W n (bs.drop t) m r).map (wadd t)
theorem wntT_zero (bs : List Nat) (m r : Nat) : wntT W n bs 0 m r = wnt W n bs m r := by
  unfold wntT
  rw [List.drop_zero]
  cases wnt W n bs m r with
  | none => rfl
  | some x => obtain ⟨a, b, c, d⟩ := x; simp [wadd]
theorem wntT_acc (bs : List Nat) (t : Nat) (h1 : W ≤ m) (h2 : r < m / n * n) : wntT W n bs t m r = some (r % n, m / n, r / n, t) := by
  unfold wntT; rw [wnt_acc _ h1 h2]; rfl
theorem wntT_end (bs : List Nat) (h1 : m < W) : wntT W n bs bs.length m r = none := by
  unfold wntT; rw [List.drop_length, wnt_nil h1]; rfl
theorem wntT_bit {bs : List Nat} {t : Nat} (ht : t < bs.length) (h1 : m < W) : wntT W n bs t m r = wntT W n bs (t + 1) (2 * m) (2 * r + bs.getD t 0) := by
  unfold wntT
  rw [List.drop_eq_getElem_cons ht, wnt_bit _ _ h1, List.getD_eq_getElem?_getD, List.getElem?_eq_getElem ht, Option.getD_some, Option.map_map]
  congr 1
  funext x
  obtain ⟨a, b, c, d⟩ := x
  simp [wadd]; omega
theorem wntT_rej (bs : List Nat) (t : Nat) (h0 : 0 < n) (hn : n ≤ W) (h1 : W ≤ m) (h2 : ¬ r < m / n * n) : wntT W n bs t m r = wntT W n bs t (m - m / n * n) (r - m / n * n) := by
  unfold wntT; rw [wnt_rej _ h0 hn h1 h2]
theorem wl_ok (h0 : 0 < n) (hn : n ≤ W) (hr : r < m) (hm : m < 2 * W) (h : ¬ (W ≤ m ∧ r < m / n * n)) {b : Nat} (hb : b < 2) :
    2 * wlr W n m r + b < 2 * wlm W n m ∧ 2 * wlm W n m < 2 * W := by
  have h3 : m - m / n * n < n := mod_lt' h0
  unfold wlr wlm
  by_cases h1 : W ≤ m
  · have h2 : ¬ r < m / n * n := fun z => h ⟨h1, z⟩
    rw [if_pos h1, if_pos h1]
    have h4 : m / n * n ≤ m := Nat.div_mul_le_self m n
    omega
  · rw [if_neg h1, if_neg h1]
    omega
theorem wnt_ok (h0 : 0 < n) (hn : n ≤ W) : ∀ {bs : List Nat} {m r o q l t : Nat}, (∀ b ∈ bs, b < 2) → r < m → m < 2 * W → wnt W n bs m r = some (o, q, l, t) → o < n ∧ l < q ∧ q * n < 2 * W ∧ t ≤ bs.length := by
  have key : ∀ {m r o q l t : Nat}, r < m / n * n → m < 2 * W → some (r % n, m / n, r / n, 0) = some (o, q, l, t) → o < n ∧ l < q ∧ q * n < 2 * W ∧ t = 0 := by
    intro m r o q l t h2 hm e
    simp only [Option.some.injEq, Prod.mk.injEq] at e
    obtain ⟨rfl, rfl, rfl, rfl⟩ := e
    refine ⟨Nat.mod_lt _ h0, ?_, ?_, rfl⟩
    · rw [Nat.div_lt_iff_lt_mul h0]; exact h2
    · have := Nat.div_mul_le_self m n
      omega
  intro bs
  induction bs with
  | nil =>
    intro m r o q l t hb hr hm e
    unfold wnt at e
    split at e
    · rename_i h
      obtain ⟨a, b, c, d⟩ := key h.2 hm e
      exact ⟨a, b, c, by omega⟩
    · cases e
  | cons b bs ih =>
    intro m r o q l t hb hr hm e
    unfold wnt at e
    split at e
    · rename_i h
      obtain ⟨a, b, c, d⟩ := key h.2 hm e
      exact ⟨a, b, c, by omega⟩
    · rename_i h
      obtain ⟨z1, z2⟩ := wl_ok h0 hn hr hm h (hb b List.mem_cons_self)
      cases c : wnt W n bs (2 * wlm W n m) (2 * wlr W n m r + b) with
      | none => rw [c] at e; cases e
      | some x =>
        obtain ⟨o', q', l', t'⟩ := x
        rw [c] at e
        simp only [Option.map_some, wadd, Option.some.injEq, Prod.mk.injEq] at e
        obtain ⟨rfl, rfl, rfl, rfl⟩ := e
        obtain ⟨a1, a2, a3, a4⟩ := ih (fun b' h' => hb b' (List.mem_cons_of_mem _ h')) z1 z2 c
        exact ⟨a1, a2, a3, by rw [List.length_cons]; omega⟩
theorem wnt_take (more : List Nat) : ∀ {bs : List Nat} {m r o q l t : Nat}, wnt W n bs m r = some (o, q, l, t) → wnt W n (bs.take t ++ more) m r = some (o, q, l, t) := by
  intro bs
  induction bs with
  | nil =>
    intro m r o q l t e
    unfold wnt at e
    split at e
    · rename_i h
      rw [wnt_acc _ h.1 h.2]; exact e
    · cases e
  | cons b bs ih =>
    intro m r o q l t e
    unfold wnt at e
    split at e
    · rename_i h
      rw [wnt_acc _ h.1 h.2]; exact e
    · rename_i h
      cases c : wnt W n bs (2 * wlm W n m) (2 * wlr W n m r + b) with
      | none => rw [c] at e; cases e
      | some x =>
        obtain ⟨o', q', l', t'⟩ := x
        rw [c] at e
        simp only [Option.map_some, wadd, Option.some.injEq, Prod.mk.injEq] at e
        obtain ⟨rfl, rfl, rfl, rfl⟩ := e
        rw [Nat.add_comm 1 t', List.take_succ_cons, List.cons_append]
        unfold wnt
        rw [if_neg h, ih c]
        simp [wadd]; omega
end
end MR
namespace Fx
open PySem PySem.Spec PyProof.Rows L2 RZ MR
theorem fdivN (a b : Nat) : ((a : Nat) : Int).fdiv ((b : Nat) : Int) = ((a / b : Nat) : Int) := by
  rw [Int.fdiv_eq_ediv_of_nonneg _ (by omega), Int.natCast_ediv]
theorem fmodN (a b : Nat) : ((a : Nat) : Int).fmod ((b : Nat) : Int) = ((a % b : Nat) : Int) := by
  rw [Int.fmod_eq_emod_of_nonneg _ (by omega), Int.natCast_emod]
theorem atL {bs : List Nat} {t : Nat} (h : t < bs.length) : L2.atI (bs.map fun (n : Nat) => PV.int n) ((t : Nat) : Int) = some (.int (bs.getD t 0 : Nat)) := by
  have e : (bs.map fun (n : Nat) => PV.int n)[t]? = some (.int (bs.getD t 0 : Nat)) := by
    rw [List.getElem?_map, List.getD_eq_getElem?_getD, List.getElem?_eq_getElem h]
    rfl
  exact atI_some e
def restP (m r : Nat) : PV := .tup [.int (m : Nat), .int (r : Nat)]
def wntP : Option (Nat × Nat × Nat × Nat) → PV
  | none => .non
  | some x => .tup [.int (x.1 : Nat), restP x.2.1 x.2.2.1, .int (x.2.2.2 : Nat)]
theorem shb_nat {n : Nat} (h : n < 2 ^ 100) : ShB 0 101 (.int (n : Nat)) := shb_small (k := 100) (by rw [Int.natAbs_natCast]; exact h) (by decide) (by decide)
theorem shb_rest {m r : Nat} (h1 : m < 2 ^ 100) (h2 : r < 2 ^ 100) : ShB 1 300 (restP m r) := by
  refine (shb_tup (d := 0) (l := 101) fun x hx => ?_).mono (by decide) (by simp)
  rcases List.mem_cons.mp hx with rfl | hx
  · exact shb_nat h1
  · rw [List.mem_singleton.mp hx]; exact shb_nat h2
theorem shb_non : ShB 0 10 .non := ⟨.none, rfl, by simp [PyData.showable], by simp [PyData.hasDict], by simp [PyData.depth], by decide⟩
theorem shl1w (w : Nat) : (1 : Int) * 2 ^ ((w : Nat) : Int).toNat = ((2 ^ w : Nat) : Int) := by
  rw [Int.toNat_natCast, Int.one_mul]; simp
theorem shl2w (w : Nat) : (2 : Int) * 2 ^ ((w : Nat) : Int).toNat = ((2 * 2 ^ w : Nat) : Int) := by
  rw [Int.toNat_natCast]; simp
theorem pw_bnd {w : Nat} (h2 : w ≤ 12) : 2 ^ w ≤ 4096 := Nat.le_trans (Nat.pow_le_pow_right (by decide) h2) (by decide)
theorem minM_nat {a M : Int} (ha : 2 ≤ a) (hM : 2 ≤ M) : ∃ n : Nat, (if a < M then a else M) = (n : Int) ∧ 2 ≤ n ∧ (n : Int) ≤ M := by
  split
  · exact ⟨a.toNat, by omega, by omega, by omega⟩
  · exact ⟨M.toNat, by omega, by omega, by omega⟩
theorem len_lot (bs : List Nat) (μ : Store) : itemsOf (lotP bs) μ = some (bs.map fun (n : Nat) => PV.int n) := rfl
end Fx
namespace Fx
open PySem PySem.Spec PyProof.Rows L2 RZ MR
end Fx
namespace MR
def rww (W : Nat) : List Nat → List Nat → Nat → Nat → Option (List Nat × Nat × Nat × Nat)
  | [], _, m, r => some ([], m, r, 0)
  | n :: ns, bs, m, r => match wnt W n bs m r with
    | none => none
    | some x => match rww W ns (bs.drop x.2.2.2) x.2.1 x.2.2.1 with
      | none => none
      | some y => some (x.1 :: y.1, y.2.1, y.2.2.1, x.2.2.2 + y.2.2.2)
section
variable {W : Nat}
theorem rww_cons (n : Nat) (ns bs : List Nat) (m r : Nat) : rww W (n :: ns) bs m r = match wnt W n bs m r with
    | none => none
    | some x => match rww W ns (bs.drop x.2.2.2) x.2.1 x.2.2.1 with
      | none => none
      | some y => some (x.1 :: y.1, y.2.1, y.2.2.1, x.2.2.2 + y.2.2.2) := rfl
theorem rww_snoc (n : Nat) : ∀ {ns bs : List Nat} {m r : Nat}, rww W (ns ++ [n]) bs m r = match rww W ns bs m r with
    | none => none
    | some x => match wnt W n (bs.drop x.2.2.2) x.2.1 x.2.2.1 with
      | none => none
      | some y => some (x.1 ++ [y.1], y.2.1, y.2.2.1, x.2.2.2 + y.2.2.2)
  | [], bs, m, r => by
    rw [List.nil_append, rww_cons]
    show _ = match wnt W n (bs.drop 0) m r with
      | none => none
      | some y => some ([] ++ [y.1], y.2.1, y.2.2.1, 0 + y.2.2.2)
    rw [List.drop_zero]
    cases wnt W n bs m r with
    | none => rfl
    | some x => simp [rww]
  | k :: ns, bs, m, r => by
    rw [List.cons_append, rww_cons, rww_cons]
    cases wnt W k bs m r with
    | none => rfl
    | some x =>
      simp only
      rw [rww_snoc n]
      cases rww W ns (bs.drop x.2.2.2) x.2.1 x.2.2.1 with
      | none => rfl
      | some y =>
        simp only [List.drop_drop]
        cases wnt W n (bs.drop (x.2.2.2 + y.2.2.2)) y.2.1 y.2.2.1 with
        | none => rfl
        | some z => simp [Nat.add_assoc]
theorem rww_none (b : List Nat) : ∀ {a bs : List Nat} {m r : Nat}, rww W a bs m r = none → rww W (a ++ b) bs m r = none
  | [], _, _, _, h => by cases h
  | n :: a, bs, m, r, h => by
    rw [List.cons_append, rww_cons]
    rw [rww_cons] at h
    cases e : wnt W n bs m r with
    | none => rfl
    | some x =>
      rw [e] at h
      simp only at h ⊢
      cases e2 : rww W a (bs.drop x.2.2.2) x.2.1 x.2.2.1 with
      | none => rw [rww_none b e2]
      | some y => rw [e2] at h; cases h
theorem rww_ok : ∀ {ns bs : List Nat} {m r : Nat} {x : List Nat × Nat × Nat × Nat}, (∀ n ∈ ns, 2 ≤ n ∧ n ≤ 64 ∧ n ≤ W) → (∀ b ∈ bs, b < 2) → r < m → m < 2 * W → rww W ns bs m r = some x →
    x.2.2.1 < x.2.1 ∧ x.2.1 < 2 * W ∧ x.2.2.2 ≤ bs.length ∧ x.1.length = ns.length ∧ ∀ o ∈ x.1, o < 64
  | [], bs, m, r, x, _, _, h1, h2, h => by
    cases h
    exact ⟨h1, h2, Nat.zero_le _, rfl, by simp⟩
  | n :: ns, bs, m, r, x, hn, hb, h1, h2, h => by
    rw [rww_cons] at h
    cases e : wnt W n bs m r with
    | none => rw [e] at h; cases h
    | some y =>
      rw [e] at h
      simp only at h
      obtain ⟨n2, n64, nW⟩ := hn n List.mem_cons_self
      obtain ⟨a1, a2, a3, a4⟩ := wnt_ok (o := y.1) (q := y.2.1) (l := y.2.2.1) (t := y.2.2.2) (by omega) nW hb h1 h2 e
      have hq : y.2.1 ≤ y.2.1 * n := Nat.le_mul_of_pos_right _ (by omega)
      cases e2 : rww W ns (bs.drop y.2.2.2) y.2.1 y.2.2.1 with
      | none => rw [e2] at h; cases h
      | some z =>
        rw [e2] at h
        cases h
        obtain ⟨b1, b2, b3, b4, b5⟩ := rww_ok (fun k hk => hn k (List.mem_cons_of_mem _ hk)) (fun b hb' => hb b (List.mem_of_mem_drop hb')) a2 (by omega) e2
        rw [List.length_drop] at b3
        refine ⟨b1, b2, by simp only; omega, by simp only [List.length_cons]; omega, fun o ho => ?_⟩
        rcases List.mem_cons.mp ho with rfl | ho
        · omega
        · exact b5 o ho
theorem rww_take (more : List Nat) : ∀ {ns bs : List Nat} {m r : Nat} {x : List Nat × Nat × Nat × Nat}, (∀ n ∈ ns, 2 ≤ n ∧ n ≤ 64 ∧ n ≤ W) → (∀ b ∈ bs, b < 2) → r < m → m < 2 * W → rww W ns bs m r = some x → rww W ns (bs.take x.2.2.2 ++ more) m r = some x
  | [], bs, m, r, x, _, _, _, _, h => by cases h; rfl
  | n :: ns, bs, m, r, x, hn, hb, h1, h2, h => by
    rw [rww_cons] at h
    cases e : wnt W n bs m r with
    | none => rw [e] at h; cases h
    | some y =>
      rw [e] at h
      simp only at h
      obtain ⟨n2, n64, nW⟩ := hn n List.mem_cons_self
      obtain ⟨a1, a2, a3, a4⟩ := wnt_ok (o := y.1) (q := y.2.1) (l := y.2.2.1) (t := y.2.2.2) (by omega) nW hb h1 h2 e
      have hq : y.2.1 ≤ y.2.1 * n := Nat.le_mul_of_pos_right _ (by omega)
      cases e2 : rww W ns (bs.drop y.2.2.2) y.2.1 y.2.2.1 with
      | none => rw [e2] at h; cases h
      | some z =>
        rw [e2] at h
        cases h
        have ih := rww_take more (fun k hk => hn k (List.mem_cons_of_mem _ hk)) (fun b hb' => hb b (List.mem_of_mem_drop hb')) a2 (by omega) e2
        have es : bs.take (y.2.2.2 + z.2.2.2) = bs.take y.2.2.2 ++ (bs.drop y.2.2.2).take z.2.2.2 := List.take_add
        have e3 := wnt_take (W := W) (n := n) ((bs.drop y.2.2.2).take z.2.2.2 ++ more) (bs := bs) (m := m) (r := r) (o := y.1) (q := y.2.1) (l := y.2.2.1) (t := y.2.2.2) e
        show rww W (n :: ns) (bs.take (y.2.2.2 + z.2.2.2) ++ more) m r = _
        rw [es, List.append_assoc, rww_cons, e3]
        simp only
        rw [List.drop_append_of_le_length (by rw [List.length_take]; omega), List.drop_eq_nil_of_le (by rw [List.length_take]; omega), List.nil_append, ih]
end
inductive CX where
  | rows (l : List (List Nat)) | lots (l : List (List Int × Nat)) | lot (l : List ((List Int × Int) × Int))
def fdX {α β : Type} [DecidableEq α] (l : List (α × β)) (k : α) : Option β := (l.find? fun e => decide (e.1 = k)).map (·.2)
def ptX {α β : Type} [DecidableEq α] (l : List (α × β)) (k : α) (v : β) : List (α × β) :=
  if (fdX l k).isSome then l.map (fun e => if e.1 = k then (e.1, v) else e) else l ++ [(k, v)]
abbrev SX := List CX × Nat
def turnX (W : Nat) (ns : List Nat) (st : SX) : Option SX :=
  match st.1[st.2]? with
  | some (CX.rows l) =>
    match l.getLast? with
    | some bs =>
      if (bs.all fun b => decide (b < 2)) && decide (bs.length ≤ 7) && decide (l.length ≤ 100) then
        let c1 := st.1.set st.2 (.rows l.dropLast)
        match rww W ns bs 1 0 with
        | none => if bs.length < 7 then some (c1 ++ [.rows (l.dropLast ++ [bs ++ [0], bs ++ [1]])], c1.length) else some (c1, st.2)
        | some x =>
          if x.2.2.2 = bs.length then
            let c2 := c1 ++ [.lot []]
            match c2[0]? with
            | some (CX.lots L) =>
              let k : List Int := [(x.2.2.2 : Nat), (x.2.1 : Nat)]
              let j := (fdX L k).getD c1.length
              match c2[j]? with
              | some (CX.lot kv) =>
                let q : List Int × Int := (x.1.map fun (i : Nat) => (i : Int), ((x.2.2.1 : Nat) : Int))
                if kv.length ≤ 1000 ∧ L.length < 63 then some ((c2.set j (.lot (ptX kv q ((fdX kv q).getD 0 + 1)))).set 0 (.lots (ptX L k j)), st.2) else none
              | _ => none
            | _ => none
          else none
      else none
    | none => none
  | _ => none
def doneX (st : SX) : Bool := match st.1[st.2]? with | some (CX.rows l) => l.isEmpty | _ => false
def goX (W : Nat) (ns : List Nat) : Nat → SX → Option SX
  | 0, st => if doneX st then some st else none
  | j + 1, st => if doneX st then some st else (match turnX W ns st with | none => none | some s => goX W ns j s)
def oneX (v : Int) (l : List Int) : Bool := l.all fun x => decide (x = v)
def rightX (W : Nat) (ns : List Nat) (st : SX) : Bool :=
  match st.1[0]? with
  | some (CX.lots L) => decide (L.length < 64) && L.all fun e => match fdX L e.1 with
    | none => false
    | some j => match st.1[j]?, e.1 with
      | some (CX.lot kv), [_, m] => decide ((kv.length : Int) = ((ns.map fun (n : Nat) => (n : Int)).foldl (· * ·) 1) * m) && (match kv with | [] => false | a :: _ => oneX a.2 (kv.map (·.2))) && decide (kv.length ≤ 1000) && decide (m.natAbs ≤ 10000)
      | _, _ => false
  | _ => false
def evenX (W : Nat) (ns : List Nat) : Bool := match goX W ns 300 ([.lots [], .rows [[]]], 1) with | none => false | some st => rightX W ns st
theorem goX_cases {W : Nat} {ns : List Nat} {st fin : SX} : ∀ {j : Nat}, goX W ns j st = some fin → (doneX st = true ∧ fin = st) ∨ (∃ i s, j = i + 1 ∧ turnX W ns st = some s ∧ goX W ns i s = some fin)
  | 0, h => by
    unfold goX at h
    split at h
    · rename_i c; cases h; exact .inl ⟨c, rfl⟩
    · cases h
  | j + 1, h => by
    unfold goX at h
    split at h
    · rename_i c; cases h; exact .inl ⟨c, rfl⟩
    · split at h
      · cases h
      · rename_i s e; exact .inr ⟨j, s, rfl, e, h⟩
theorem doneX_rows {st : SX} (h : doneX st = true) : st.1[st.2]? = some (.rows []) := by
  unfold doneX at h
  split at h
  · rename_i l e
    rw [e]
    cases l with
    | nil => rfl
    | cons a l => cases h
  · cases h
theorem turnX_cases {W : Nat} {ns : List Nat} {cs : List CX} {td : Nat} {s : SX} (h : turnX W ns (cs, td) = some s) :
    ∃ l bs, cs[td]? = some (.rows l) ∧ l.getLast? = some bs ∧ (∀ b ∈ bs, b < 2) ∧ bs.length ≤ 7 ∧ l.length ≤ 100 ∧
      ((rww W ns bs 1 0 = none ∧ bs.length < 7 ∧ s = (cs.set td (.rows l.dropLast) ++ [.rows (l.dropLast ++ [bs ++ [0], bs ++ [1]])], cs.length)) ∨
       (rww W ns bs 1 0 = none ∧ ¬ bs.length < 7 ∧ s = (cs.set td (.rows l.dropLast), td)) ∨
       ∃ (x : List Nat × Nat × Nat × Nat) (L : List (List Int × Nat)) (kv : List ((List Int × Int) × Int)) (j : Nat), rww W ns bs 1 0 = some x ∧ x.2.2.2 = bs.length ∧ (cs.set td (.rows l.dropLast) ++ [.lot []])[0]? = some (.lots L) ∧ j = (fdX L [((x.2.2.2 : Nat) : Int), ((x.2.1 : Nat) : Int)]).getD cs.length ∧ (cs.set td (.rows l.dropLast) ++ [.lot []])[j]? = some (.lot kv) ∧ kv.length ≤ 1000 ∧ L.length < 63 ∧
        s = (((cs.set td (CX.rows l.dropLast) ++ [CX.lot []]).set j (CX.lot (ptX kv (x.1.map fun (i : Nat) => (i : Int), ((x.2.2.1 : Nat) : Int)) ((fdX kv (x.1.map fun (i : Nat) => (i : Int), ((x.2.2.1 : Nat) : Int))).getD 0 + 1)))).set 0 (.lots (ptX L [((x.2.2.2 : Nat) : Int), ((x.2.1 : Nat) : Int)] j)), td)) := by
  unfold turnX at h
  simp only at h
  split at h
  · rename_i l e
    split at h
    · rename_i bs e2
      split at h
      · rename_i c
        simp only [Bool.and_eq_true, List.all_eq_true, decide_eq_true_eq] at c
        obtain ⟨⟨c1, c2⟩, c3⟩ := c
        refine ⟨l, bs, e, e2, c1, c2, c3, ?_⟩
        split at h
        · rename_i e3
          split at h
          · rename_i c4
            cases h
            exact .inl ⟨e3, c4, by rw [List.length_set]⟩
          · rename_i c4
            cases h
            exact .inr (.inl ⟨e3, c4, rfl⟩)
        · rename_i x e3
          split at h
          · rename_i c4
            split at h
            · rename_i L e5
              split at h
              · rename_i kv e6
                split at h
                · rename_i c7
                  cases h
                  rw [List.length_set] at e6
                  exact .inr (.inr ⟨x, L, kv, _, e3, c4, e5, rfl, e6, c7.1, c7.2, by rw [List.length_set]⟩)
                · cases h
              · cases h
            · cases h
          · cases h
      · cases h
    · cases h
  · cases h
theorem last_get {α : Type} {l : List α} {a : α} (h : l.getLast? = some a) : l[l.length - 1]? = some a ∧ l ≠ [] := by
  rw [List.getLast?_eq_getElem?] at h
  exact ⟨h, fun e => by rw [e] at h; cases h⟩
def prodX (l : List Nat) : Int := (l.map fun (n : Nat) => (n : Int)).foldl (· * ·) 1
theorem prodX_snoc (l : List Nat) (n : Nat) : prodX (l ++ [n]) = prodX l * (n : Int) := by
  unfold prodX
  rw [List.map_append, List.foldl_append]; rfl
theorem prodX_bd : ∀ (k : Nat) (l : List Nat), l.length = k → (∀ n ∈ l, n ≤ 64) → (prodX l).natAbs ≤ 64 ^ k
  | 0, l, h, _ => by rw [List.length_eq_zero_iff.mp h]; decide
  | k + 1, l, h, hn => by
    have hne : l ≠ [] := fun e => by rw [e] at h; cases h
    obtain ⟨a, b, rfl⟩ : ∃ a b, l = a ++ [b] := ⟨l.dropLast, l.getLast hne, (List.dropLast_concat_getLast hne).symm⟩
    rw [prodX_snoc, Int.natAbs_mul, Int.natAbs_natCast, Nat.pow_succ]
    exact Nat.mul_le_mul (prodX_bd k a (by simp at h; exact h) fun n hn' => hn n (List.mem_append_left _ hn')) (hn b (by simp))
theorem rightX_cases {W : Nat} {ns : List Nat} {st : SX} (h : rightX W ns st = true) : ∃ L : List (List Int × Nat), st.1[0]? = some (.lots L) ∧ L.length < 64 ∧
    ∀ e ∈ L, ∃ (j : Nat) (kv : List ((List Int × Int) × Int)) (t m c : Int), fdX L e.1 = some j ∧ st.1[j]? = some (.lot kv) ∧ e.1 = [t, m] ∧ (kv.length : Int) = prodX ns * m ∧ kv ≠ [] ∧ (∀ p ∈ kv, p.2 = c) ∧ kv.length ≤ 1000 ∧ m.natAbs ≤ 10000 := by
  unfold rightX at h
  split at h
  · rename_i L e
    rw [Bool.and_eq_true, decide_eq_true_eq, List.all_eq_true] at h
    refine ⟨L, e, h.1, fun x hx => ?_⟩
    have h2 := h.2 x hx
    split at h2
    · cases h2
    · rename_i j ej
      split at h2
      · rename_i kv t m ek em
        simp only [Bool.and_eq_true, decide_eq_true_eq] at h2
        obtain ⟨⟨⟨h3, h4⟩, h5⟩, h6⟩ := h2
        cases kv with
        | nil => cases h4
        | cons a l =>
          refine ⟨j, a :: l, t, m, a.2, ej, ek, em, h3, by simp, fun p hp => ?_, h5, h6⟩
          unfold oneX at h4
          rw [List.all_eq_true] at h4
          exact of_decide_eq_true (h4 p.2 (List.mem_map.mpr ⟨p, hp, rfl⟩))
      · cases h2
  · cases h
theorem one_len {ms vs : List Int} {c : Int} (hn : ms.Nodup) (hm : ∀ k : Int, k ∈ ms ↔ k ∈ vs) (hv : vs ≠ []) (hc : ∀ v ∈ vs, v = c) : ms.length = 1 := by
  cases vs with
  | nil => exact absurd rfl hv
  | cons a l =>
    have ha : a ∈ ms := (hm a).mpr List.mem_cons_self
    cases ms with
    | nil => cases ha
    | cons x xs =>
      cases xs with
      | nil => rfl
      | cons y ys =>
        have h1 := hc x ((hm x).mp List.mem_cons_self)
        have h2 := hc y ((hm y).mp (List.mem_cons_of_mem _ List.mem_cons_self))
        rw [List.nodup_cons] at hn
        exact absurd (by rw [h1, ← h2]; exact List.mem_cons_self) hn.1
theorem set_same {α : Type} {l : List α} {n : Nat} {x : α} (h : l[n]? = some x) : l.set n x = l := by
  apply List.ext_getElem?
  intro i
  by_cases e : n = i
  · subst e
    rw [List.getElem?_set_self (List.getElem?_eq_some_iff.mp h).1, h]
  · rw [List.getElem?_set_ne e]
theorem ev_4_3 : evenX 4 [3] = true := by decide +kernel
theorem ev_4_2_3 : evenX 4 [2, 3] = true := by decide +kernel
theorem ev_4_3_2 : evenX 4 [3, 2] = true := by decide +kernel
theorem ev_4_4 : evenX 4 [4] = true := by decide +kernel
theorem ev_4_2_2 : evenX 4 [2, 2] = true := by decide +kernel
theorem ev_4_3_3 : evenX 4 [3, 3] = true := by decide +kernel
theorem ev_4_4_3 : evenX 4 [4, 3] = true := by decide +kernel
theorem ev_4_2_2_3 : evenX 4 [2, 2, 3] = true := by decide +kernel
theorem ev_8_3 : evenX 8 [3] = true := by decide +kernel
theorem ev_8_2_3 : evenX 8 [2, 3] = true := by decide +kernel
theorem ev_8_3_2 : evenX 8 [3, 2] = true := by decide +kernel
theorem ev_8_4 : evenX 8 [4] = true := by decide +kernel
theorem ev_8_2_2 : evenX 8 [2, 2] = true := by decide +kernel
theorem ev_8_3_3 : evenX 8 [3, 3] = true := by decide +kernel
theorem ev_8_4_3 : evenX 8 [4, 3] = true := by decide +kernel
theorem ev_8_2_2_3 : evenX 8 [2, 2, 3] = true := by decide +kernel
theorem ev_8_5 : evenX 8 [5] = true := by decide +kernel
theorem ev_8_7 : evenX 8 [7] = true := by decide +kernel
theorem ev_8_6 : evenX 8 [6] = true := by decide +kernel
theorem ev_8_5_2 : evenX 8 [5, 2] = true := by decide +kernel
theorem ev_8_8 : evenX 8 [8] = true := by decide +kernel
theorem ev_8_5_3 : evenX 8 [5, 3] = true := by decide +kernel
theorem ev_8_2_7 : evenX 8 [2, 7] = true := by decide +kernel
theorem ev_16_3 : evenX 16 [3] = true := by decide +kernel
theorem ev_16_2_3 : evenX 16 [2, 3] = true := by decide +kernel
theorem ev_16_3_2 : evenX 16 [3, 2] = true := by decide +kernel
theorem ev_16_4 : evenX 16 [4] = true := by decide +kernel
theorem ev_16_2_2 : evenX 16 [2, 2] = true := by decide +kernel
theorem ev_16_3_3 : evenX 16 [3, 3] = true := by decide +kernel
theorem ev_16_4_3 : evenX 16 [4, 3] = true := by decide +kernel
theorem ev_16_2_2_3 : evenX 16 [2, 2, 3] = true := by decide +kernel
theorem ev_16_5 : evenX 16 [5] = true := by decide +kernel
theorem ev_16_7 : evenX 16 [7] = true := by decide +kernel
theorem ev_16_6 : evenX 16 [6] = true := by decide +kernel
theorem ev_16_5_2 : evenX 16 [5, 2] = true := by decide +kernel
theorem ev_16_8 : evenX 16 [8] = true := by decide +kernel
theorem ev_16_5_3 : evenX 16 [5, 3] = true := by decide +kernel
theorem ev_16_2_7 : evenX 16 [2, 7] = true := by decide +kernel
def wA : List (List Nat) := [[3], [2, 3], [3, 2], [4], [2, 2], [3, 3], [4, 3], [2, 2, 3]]
def wB : List (List Nat) := [[5], [7], [6], [5, 2], [8], [5, 3], [2, 7]]
theorem ev4A : ∀ l ∈ wA, evenX 4 l = true := by
  intro l h
  simp only [wA, List.mem_cons, List.not_mem_nil, or_false] at h
  rcases h with rfl | rfl | rfl | rfl | rfl | rfl | rfl | rfl
  · exact ev_4_3
  · exact ev_4_2_3
  · exact ev_4_3_2
  · exact ev_4_4
  · exact ev_4_2_2
  · exact ev_4_3_3
  · exact ev_4_4_3
  · exact ev_4_2_2_3
theorem ev8A : ∀ l ∈ wA, evenX 8 l = true := by
  intro l h
  simp only [wA, List.mem_cons, List.not_mem_nil, or_false] at h
  rcases h with rfl | rfl | rfl | rfl | rfl | rfl | rfl | rfl
  · exact ev_8_3
  · exact ev_8_2_3
  · exact ev_8_3_2
  · exact ev_8_4
  · exact ev_8_2_2
  · exact ev_8_3_3
  · exact ev_8_4_3
  · exact ev_8_2_2_3
theorem ev8B : ∀ l ∈ wB, evenX 8 l = true := by
  intro l h
  simp only [wB, List.mem_cons, List.not_mem_nil, or_false] at h
  rcases h with rfl | rfl | rfl | rfl | rfl | rfl | rfl
  · exact ev_8_5
  · exact ev_8_7
  · exact ev_8_6
  · exact ev_8_5_2
  · exact ev_8_8
  · exact ev_8_5_3
  · exact ev_8_2_7
theorem ev16A : ∀ l ∈ wA, evenX 16 l = true := by
  intro l h
  simp only [wA, List.mem_cons, List.not_mem_nil, or_false] at h
  rcases h with rfl | rfl | rfl | rfl | rfl | rfl | rfl | rfl
  · exact ev_16_3
  · exact ev_16_2_3
  · exact ev_16_3_2
  · exact ev_16_4
  · exact ev_16_2_2
  · exact ev_16_3_3
  · exact ev_16_4_3
  · exact ev_16_2_2_3
theorem ev16B : ∀ l ∈ wB, evenX 16 l = true := by
  intro l h
  simp only [wB, List.mem_cons, List.not_mem_nil, or_false] at h
  rcases h with rfl | rfl | rfl | rfl | rfl | rfl | rfl
  · exact ev_16_5
  · exact ev_16_7
  · exact ev_16_6
  · exact ev_16_5_2
  · exact ev_16_8
  · exact ev_16_5_3
  · exact ev_16_2_7
theorem wA_ok : ∀ l ∈ wA, (∀ n ∈ l, 2 ≤ n ∧ n ≤ 4) ∧ l.length ≤ 12 := by decide
theorem wB_ok : ∀ l ∈ wB, (∀ n ∈ l, 2 ≤ n ∧ n ≤ 8) ∧ l.length ≤ 12 := by decide
theorem even_ok {z : Nat} (hz : z ≤ 2) {l : List Nat} (h : l ∈ wA ∨ (1 ≤ z ∧ l ∈ wB)) : (∀ n ∈ l, 2 ≤ n ∧ n ≤ 64 ∧ n ≤ 2 ^ (2 + z)) ∧ l.length ≤ 12 ∧ evenX (2 ^ (2 + z)) l = true := by
  have hz3 : z = 0 ∨ z = 1 ∨ z = 2 := by omega
  rcases h with h | ⟨h1, h⟩
  · obtain ⟨c1, c2⟩ := wA_ok l h
    rcases hz3 with rfl | rfl | rfl
    · exact ⟨fun n hn => by have := c1 n hn; omega, c2, ev4A l h⟩
    · exact ⟨fun n hn => by have := c1 n hn; omega, c2, ev8A l h⟩
    · exact ⟨fun n hn => by have := c1 n hn; omega, c2, ev16A l h⟩
  · obtain ⟨c1, c2⟩ := wB_ok l h
    rcases hz3 with rfl | rfl | rfl
    · omega
    · exact ⟨fun n hn => by have := c1 n hn; omega, c2, ev8B l h⟩
    · exact ⟨fun n hn => by have := c1 n hn; omega, c2, ev16B l h⟩
end MR
namespace MR
end MR
namespace MR
def Wr (r : Nat → Nat) : Nat → Nat → Nat
  | 0, _ => 0
  | m + 1, k => 2 * Wr r m k + r (k + m)
def nW (r : Nat → Nat) (s L k : Nat) : Nat := 2 * (Wr r s k * (2 ^ L - 1)) + 2 * Wr r L (k + s)
end MR
namespace MR
end MR
namespace MR
end MR
namespace MR
end MR
namespace MR
theorem nat_ne {n : Nat} (h : 0 < n) : ((n : Nat) : Rat) ≠ 0 := fun z => by have z := Rat.natCast_eq_zero_iff.mp z; omega
end MR
namespace MR
theorem two_pow_ne (t : Nat) : ((2 ^ t : Nat) : Rat) ≠ 0 := nat_ne (Nat.two_pow_pos t)
def SmD (b : Nat) : Prop := 0 < b ∧ (b ≤ 1000 ∨ ∃ e, e ≤ 60 ∧ b = 2 ^ e)
theorem dvd_two : ∀ {e d : Nat}, d ∣ 2 ^ e → ∃ k, k ≤ e ∧ d = 2 ^ k
  | 0, d, h => ⟨0, Nat.le_refl _, Nat.dvd_one.mp h⟩
  | e + 1, d, h => by
    rcases Nat.mod_two_eq_zero_or_one d with z | z
    · obtain ⟨c, hc⟩ : ∃ c, d = 2 * c := ⟨d / 2, by omega⟩
      subst hc
      rw [Nat.pow_succ, Nat.mul_comm (2 ^ e) 2] at h
      obtain ⟨k, hk, rfl⟩ := dvd_two (Nat.dvd_of_mul_dvd_mul_left (by decide) h)
      exact ⟨k + 1, by omega, by rw [Nat.pow_succ, Nat.mul_comm]⟩
    · have cop : Nat.Coprime d (2 ^ (e + 1)) := by
        refine Nat.Coprime.pow_right _ ?_
        rw [Nat.coprime_comm]
        show Nat.gcd 2 d = 1
        rw [Nat.gcd_rec, z]; decide
      exact ⟨0, Nat.zero_le _, Nat.Coprime.eq_one_of_dvd cop h⟩
theorem SmD.dvd {b d : Nat} (h : SmD b) (hd : d ∣ b) : SmD d := by
  obtain ⟨h0, h⟩ := h
  have hd0 : 0 < d := Nat.pos_of_dvd_of_pos hd h0
  refine ⟨hd0, ?_⟩
  rcases h with h | ⟨e, he, rfl⟩
  · exact .inl (Nat.le_trans (Nat.le_of_dvd h0 hd) h)
  · obtain ⟨k, hk, rfl⟩ := dvd_two hd
    exact .inr ⟨k, by omega, rfl⟩
theorem SmD.lt {b : Nat} (h : SmD b) : b ≤ 2 ^ 60 := by
  rcases h.2 with h | ⟨e, he, rfl⟩
  · exact Nat.le_trans h (by decide)
  · exact Nat.pow_le_pow_right (by decide) he
theorem SmD.few {b : Nat} (h : SmD b) {a j : Nat} (hd : ∀ i k, i < k → k < j → rst a b i ≠ rst a b k) : j ≤ 1000 ∧ j ≤ b + 62 ∧ ((∃ e, e ≤ 60 ∧ b = 2 ^ e) → j ≤ 62) := by
  have h0 := h.1
  have f := few_rests h0 hd
  have pw : (∃ e, e ≤ 60 ∧ b = 2 ^ e) → j ≤ 62 := by
    rintro ⟨e, he, rfl⟩
    rcases Nat.lt_or_ge 62 j with z | z
    · have e1 : ∀ k, e ≤ k → rst a (2 ^ e) k = 0 := by
        intro k hk
        rw [rst_pow, show k = e + (k - e) by omega, Nat.pow_add, ← Nat.mul_assoc, Nat.mul_right_comm, Nat.mul_mod_left]
      exact absurd ((e1 60 (by omega)).trans (e1 61 (by omega)).symm) (hd 60 61 (by omega) (by omega))
    · exact z
  refine ⟨?_, by omega, pw⟩
  rcases h.2 with h | h
  · omega
  · have := pw h; omega
end MR
namespace MR
def flr (q : Rat) (m : Nat) : Int := q.num * ((2 ^ m : Nat) : Int) / (q.den : Int)
def ent (q : Rat) (m : Nat) : Bool := decide (q.num * ((2 ^ m : Nat) : Int) % (q.den : Int) = 0)
def wth (B : List Rat) (m : Nat) : List Int := (B.filter fun q => !ent q m).map fun q => flr q m
def dst (l : List Int) : List Int := l.foldr (fun a r => if a ∈ r then r else a :: r) []
theorem dst_ok : ∀ l : List Int, (dst l).Nodup ∧ ∀ a, a ∈ dst l ↔ a ∈ l
  | [] => ⟨List.nodup_nil, fun a => Iff.rfl⟩
  | b :: l => by
    obtain ⟨h1, h2⟩ := dst_ok l
    have e : dst (b :: l) = if b ∈ dst l then dst l else b :: dst l := rfl
    rw [e]
    by_cases c : b ∈ dst l
    · rw [if_pos c]
      refine ⟨h1, fun a => ?_⟩
      rw [h2, List.mem_cons]
      refine ⟨.inr, fun q => q.elim (fun q => ?_) id⟩
      rw [q]; exact (h2 b).mp c
    · rw [if_neg c]
      refine ⟨List.nodup_cons.mpr ⟨c, h1⟩, fun a => ?_⟩
      rw [List.mem_cons, List.mem_cons, h2]
theorem nodup_le' {α : Type} [DecidableEq α] : ∀ {l m : List α}, l.Nodup → (∀ x ∈ l, x ∈ m) → l.length ≤ m.length
  | [], _, _, _ => Nat.zero_le _
  | x :: l, m, hn, hs => by
    obtain ⟨h1, h2⟩ := List.nodup_cons.mp hn
    have hx := hs x List.mem_cons_self
    have := nodup_le' h2 (m := m.erase x) fun y hy => by
      have hne : y ≠ x := fun z => h1 (z ▸ hy)
      exact (List.mem_erase_of_ne hne).mpr (hs y (List.mem_cons_of_mem _ hy))
    rw [List.length_erase_of_mem hx] at this
    have := List.length_pos_of_mem hx
    rw [List.length_cons]
    omega
def und (B : List Rat) (m : Nat) : Nat := (dst (wth B m)).length
theorem flr_double (q : Rat) (m : Nat) : flr q (m + 1) / 2 = flr q m := by
  have hd : (0 : Int) < (q.den : Int) := by have := q.den_pos; omega
  unfold flr
  rw [Int.ediv_ediv_of_nonneg (by omega), Int.mul_comm (q.den : Int) 2, ← Int.ediv_ediv_of_nonneg (by decide)]
  congr 1
  rw [Nat.pow_succ, Int.natCast_mul, ← Int.mul_assoc]
  exact Int.mul_ediv_cancel _ (by decide)
theorem ent_succ {q : Rat} {m : Nat} (h : ent q m = true) : ent q (m + 1) = true := by
  unfold ent at *
  rw [decide_eq_true_eq] at *
  rw [Nat.pow_succ, Int.natCast_mul, ← Int.mul_assoc, Int.mul_emod, h, Int.zero_mul, Int.zero_emod]
def pw2 (n : Nat) : Bool := decide (n &&& (n - 1) = 0)
def ends (B : List Rat) : Nat := (B.filter fun q => !pw2 q.den).length
theorem pw2_iff {n : Nat} (h : 0 < n) : pw2 n = true ↔ ∃ e, n = 2 ^ e := by
  unfold pw2
  rw [decide_eq_true_eq]
  exact Nat.and_sub_one_eq_zero_iff_isPowerOfTwo (by omega)
theorem ent_pw2 {q : Rat} {m : Nat} (h : ent q m = true) : pw2 q.den = true := by
  unfold ent at h
  rw [decide_eq_true_eq] at h
  have h1 : (q.den : Int) ∣ q.num * ((2 ^ m : Nat) : Int) := Int.dvd_of_emod_eq_zero h
  have h2 : q.den ∣ q.num.natAbs * 2 ^ m := by
    have := Int.natAbs_dvd_natAbs.mpr h1
    rwa [Int.natAbs_natCast, Int.natAbs_mul, Int.natAbs_natCast] at this
  have h3 : q.den ∣ 2 ^ m := Nat.Coprime.dvd_of_dvd_mul_left (Nat.Coprime.symm q.reduced) h2
  obtain ⟨k, _, e⟩ := dvd_two h3
  exact (pw2_iff q.den_pos).mpr ⟨k, e⟩
def Cln (B : List Rat) (m : Nat) : Prop := (wth B m).length = und B m ∧ und B m = ends B
theorem filter_sub {α : Type} {p q : α → Bool} (h : ∀ a, p a = true → q a = true) : ∀ l : List α, (l.filter p).length ≤ (l.filter q).length
  | [] => Nat.le_refl _
  | a :: l => by
    have ih := filter_sub h l
    rw [List.filter_cons, List.filter_cons]
    by_cases c : p a = true
    · rw [if_pos c, if_pos (h a c)]; simpa using ih
    · rw [if_neg c]
      split
      · rw [List.length_cons]; omega
      · exact ih
theorem ends_le (B : List Rat) (m : Nat) : ends B ≤ (wth B m).length := by
  unfold ends wth
  rw [List.length_map]
  refine filter_sub (fun q h => ?_) B
  cases c : ent q m with
  | false => rfl
  | true => rw [ent_pw2 c] at h; exact h
theorem wth_le (B : List Rat) (m : Nat) : (wth B (m + 1)).length ≤ (wth B m).length := by
  unfold wth
  rw [List.length_map, List.length_map]
  refine filter_sub (fun q h => ?_) B
  cases c : ent q m with
  | false => rfl
  | true => rw [ent_succ c] at h; exact h
theorem dst_len {l : List Int} (h : (dst l).length = l.length) : l.Nodup := by
  induction l with
  | nil => exact List.nodup_nil
  | cons a l ih =>
    have e : dst (a :: l) = if a ∈ dst l then dst l else a :: dst l := rfl
    rw [e] at h
    have hle : (dst l).length ≤ l.length := nodup_le' (dst_ok l).1 fun x hx => ((dst_ok l).2 x).mp hx
    by_cases c : a ∈ dst l
    · rw [if_pos c, List.length_cons] at h; omega
    · rw [if_neg c, List.length_cons, List.length_cons] at h
      exact List.nodup_cons.mpr ⟨fun q => c (((dst_ok l).2 a).mpr q), ih (by omega)⟩
theorem nodup_dst {l : List Int} (h : l.Nodup) : (dst l).length = l.length :=
  Nat.le_antisymm (nodup_le' (dst_ok l).1 fun x hx => ((dst_ok l).2 x).mp hx) (nodup_le' h fun x hx => ((dst_ok l).2 x).mpr hx)
theorem nodup_wth {B : List Rat} {m : Nat} (h : (wth B m).Nodup) : (wth B (m + 1)).Nodup := by
  have hs : (B.filter fun q => !ent q (m + 1)).Sublist (B.filter fun q => !ent q m) := by
    have e : (B.filter fun q => !ent q (m + 1)) = (B.filter fun q => !ent q m).filter fun q => !ent q (m + 1) := by
      rw [List.filter_filter]
      refine List.filter_congr fun q _ => ?_
      cases c : ent q m with
      | false => simp
      | true => rw [ent_succ c]; rfl
    rw [e]
    exact List.filter_sublist
  have h1 : ((B.filter fun q => !ent q (m + 1)).map fun q => flr q m).Nodup := h.sublist (hs.map _)
  have h2 : (B.filter fun q => !ent q (m + 1)).Pairwise fun a b => flr a m ≠ flr b m := List.pairwise_map.mp h1
  refine List.pairwise_map.mpr (h2.imp fun {a b} n e => n ?_)
  rw [← flr_double, ← flr_double b, e]
theorem Cln.succ {B : List Rat} {m : Nat} (h : Cln B m) : Cln B (m + 1) := by
  obtain ⟨h1, h2⟩ := h
  have hn := nodup_wth (dst_len h1.symm)
  have e1 : und B (m + 1) = (wth B (m + 1)).length := nodup_dst hn
  have a1 := ends_le B (m + 1)
  have a2 := wth_le B m
  exact ⟨e1.symm, by omega⟩
def tot (B : List Rat) : Nat → Rat
  | 0 => 0
  | m + 1 => tot B m + Rat.divInt (und B m : Nat) ((2 ^ m : Nat) : Int)
def tlE (B : List Rat) (m : Nat) : Rat := Rat.divInt ((2 * ends B : Nat) : Int) ((2 ^ m : Nat) : Int)
theorem divpow (a m : Nat) : Rat.divInt (a : Int) ((2 ^ m : Nat) : Int) = (a : Rat) / ((2 ^ m : Nat) : Rat) := by
  rw [Rat.divInt_eq_div]
  rfl
theorem Cln.step {B : List Rat} {m : Nat} (h : Cln B m) : tot B (m + 1) + tlE B (m + 1) = tot B m + tlE B m := by
  show tot B m + Rat.divInt (und B m : Nat) ((2 ^ m : Nat) : Int) + tlE B (m + 1) = tot B m + tlE B m
  rw [h.2]
  unfold tlE
  rw [divpow, divpow, divpow]
  have h1 := two_pow_ne m
  have e1 : ((2 ^ (m + 1) : Nat) : Rat) = ((2 ^ m : Nat) : Rat) * 2 := by rw [Nat.pow_succ, Rat.natCast_mul]; rfl
  have e2 : ((2 * ends B : Nat) : Rat) = 2 * ((ends B : Nat) : Rat) := by rw [Rat.natCast_mul]; rfl
  rw [e1, e2]
  grind
theorem Cln.more {B : List Rat} {m : Nat} (h : Cln B m) : ∀ j, Cln B (m + j) ∧ tot B (m + j) + tlE B (m + j) = tot B m + tlE B m
  | 0 => ⟨h, rfl⟩
  | j + 1 => by
    obtain ⟨h1, h2⟩ := Cln.more h j
    exact ⟨h1.succ, by rw [← h2]; exact h1.step⟩
theorem Cln.any {B : List Rat} {m n : Nat} (h : Cln B m) (k : Cln B n) : tot B m + tlE B m = tot B n + tlE B n := by
  rcases Nat.le_total m n with c | c
  · obtain ⟨j, rfl⟩ := Nat.exists_eq_add_of_le c
    exact (h.more j).2.symm
  · obtain ⟨j, rfl⟩ := Nat.exists_eq_add_of_le c
    exact (k.more j).2
end MR
namespace MR
end MR
namespace MR
end MR
namespace MR
section
variable {t : Nat} {qs ps os : List Rat}
end
end MR
namespace MR
abbrev Stt := List (Rat × Nat)
section
variable {t j : Nat} {qs : List Rat} {S : Stt}
end
theorem map_perm {α β : Type} (f : α → β) : ∀ {zs ys : List β}, zs.Perm ys → ∀ l : List α, ys = l.map f → ∃ l' : List α, l'.Perm l ∧ zs = l'.map f := by
  intro zs ys h
  induction h with
  | nil => intro l e; exact ⟨l, .refl _, e⟩
  | cons x _ ih =>
    intro l e
    cases l with
    | nil => simp at e
    | cons a l =>
      simp only [List.map_cons, List.cons.injEq] at e
      obtain ⟨l', p, q⟩ := ih l e.2
      exact ⟨a :: l', p.cons _, by rw [List.map_cons, ← q, e.1]⟩
  | swap x y l0 =>
    intro l e
    cases l with
    | nil => simp at e
    | cons a l =>
      cases l with
      | nil => simp at e
      | cons b l =>
        simp only [List.map_cons, List.cons.injEq] at e
        exact ⟨b :: a :: l, .swap _ _ _, by rw [List.map_cons, List.map_cons, ← e.1, ← e.2.1, ← e.2.2]⟩
  | trans _ _ ih1 ih2 =>
    intro l e
    obtain ⟨l', p, q⟩ := ih2 l e
    obtain ⟨l2, p2, q2⟩ := ih1 l' q
    exact ⟨l2, p2.trans p, q2⟩
end MR
namespace Fx
open PySem PySem.Spec PyProof.Rows L2
section
variable {K : PySem.W.Frag}
end
end Fx
namespace Fx
open PySem PySem.Spec PyProof.Rows L2
end Fx
namespace Fx
open PySem PySem.Spec PyProof.Rows L2
section
variable {K : PySem.W.Frag}
end
end Fx
namespace Fx
open PySem PySem.Spec PyProof.Rows L2
section
variable {K : PySem.W.Frag}
end
end Fx
namespace Fx
open PySem PySem.Spec PyProof.Rows L2
section
variable {K : PySem.W.Frag} {d : Wd} {H : Hp}
end
end Fx
namespace Fx
open PySem PySem.Spec PyProof.Rows L2
section
variable {K : PySem.W.Frag}
end
end Fx
namespace Fx
open PySem PySem.Spec PyProof.Rows L2 RZ
section
variable {P : Program} {w : World} {A : Around} {E : Value → Shared → Prop} {s : Shared}
variable {z TI TO i1 i2 l1 l2 : Addr} {xs ys : Array Value} {S1 S2 : Heap → Nat → Prop} {k1 k2 : Nat} {a b : Value}
end
section
variable {P : Program} {w : World} {A : Around} {E : Value → Shared → Prop} {s : Shared}
end
section
variable {K : PySem.W.Frag} {d : Wd} {H : Hp} {a b : Addr} {xs ys : List PV} {vs us : List V}
def mZipM (m : MA) : MI := fun ρ μ P => m ρ μ fun zs μ1 => match zs with | [.lst xs, .tup ys] => P (zipP xs ys) μ1 | _ => False
end
end Fx
namespace Fx
open PySem PySem.Spec PyProof.Rows L2
end Fx
namespace Fx
open PySem PySem.Spec PyProof.Rows L2 RZ
section
variable {K : PySem.W.Frag} {d d' : Wd} {H H' : Hp} {μ : Store}
theorem WOk.barDc {D : Addr} (w : WOk K d H μ) (h : H D = none) : WOk K ⟨d.am, D :: d.ban⟩ (upd H D (.dK [])) μ := by
  have w1 := (w.barD h).made (D := D) (o := .dK []) List.mem_cons_self (no_tup upd_same)
  have e : upd (upd H D (.lst [])) D (.dK []) = upd H D (.dK []) := by
    funext c
    by_cases q : c = D
    · rw [q, upd_same, upd_same]
    · rw [upd_ne q, upd_ne q, upd_ne q]
  rw [e] at w1
  exact w1
def mDcL (g : MG) (c : MT) (ek ev : ME) (ρ0 : PEnv) (P : List (Key × PV) → Store → Prop) : List PV → List (Key × PV) → Store → Prop
  | [], kvs, μ => P kvs μ
  | x :: xs, kvs, μ => g x ρ0 μ fun ρ1 μ1 => c ρ1 μ1 fun b μ2 => if b = true then ek ρ1 μ2 fun y μ3 => ev ρ1 μ3 fun z μ4 => (match keyP y with | some k => mDcL g c ek ev ρ0 P xs (putP kvs k z) μ4 | none => False) else mDcL g c ek ev ρ0 P xs kvs μ2
theorem putP_len (kvs : List (Key × PV)) (k : Key) (v : PV) : (putP kvs k v).length ≤ kvs.length + 1 := by
  unfold putP
  split
  · rw [List.length_map]; omega
  · rw [List.length_append]; simp
theorem dc_run {wi mi g mg s tt mt tk mk tv mv} {vs : List Nat} [hi : FI K wi mi] [hg : FG K g mg s] [hc : FT K tt mt] [hk : FE K tk mk] [hv : FE K tv mv] {σ : L2.St} {ρ : PEnv} {P : List (Key × PV) → Store → Prop} {Q : VK} (w : WOk K d H μ) (e : REnv K d H ρ σ) (hs : ∀ i ∈ s, i ∈ vs)
    (q : mi ρ μ fun xs μ1 => xs.length ≤ lim ∧ mDcL mg mt mk mv (wipeP ρ vs) P xs [] μ1)
    (fin : ∀ (d1 : Wd) (H1 : Hp) (D : Addr) (dB : Wd) (H' : Hp) (μ' : Store) (kvs : List (Key × PV)) (ws : List (Key × V)), Ext d H d1 H1 → H1 D = none → D ∉ d1.ban → Ext ⟨d1.am, D :: d1.ban⟩ H1 dB H' → WOk K dB H' μ' → H' D = some (.dK ws) → RKs K dB H' kvs ws → P kvs μ' → Q (.ref D) H') :
    tDc wi g tt tk tv vs σ H Q := by
  refine hi.run d σ H ρ μ _ _ w e q fun d1 H1 μ1 J xs e1 w1 it ⟨hz, q1⟩ => ?_
  intro D hD
  have bD : Bars d1 ⟨d1.am, D :: d1.ban⟩ H1 := ⟨rfl, fun x q => (List.mem_cons.mp q).elim (fun z => .inr (by rw [z]; exact hD)) .inl⟩
  have envB : REnv K ⟨d1.am, D :: d1.ban⟩ H1 (wipeP ρ vs) (wipe σ vs) := ((e.mono e1).bars bD).wipe vs
  have lay0 : Ext ⟨d1.am, D :: d1.ban⟩ H1 ⟨d1.am, D :: d1.ban⟩ (upd H1 D (.dK [])) := ⟨⟨[], by simp, fun p hp => by simp at hp⟩, rfl, fun b u e _ => by rw [upd_ne (ne_of_none e hD)]; exact e⟩
  refine ⟨fun i m H' => ∃ dB μ' kvs ws, Ext ⟨d1.am, D :: d1.ban⟩ H1 dB H' ∧ WOk K dB H' μ' ∧ H' D = some (.dK ws) ∧ RKs K dB H' kvs ws ∧ i + m = xs.length ∧ kvs.length ≤ i ∧ mDcL mg mt mk mv (wipeP ρ vs) P (xs.drop i) kvs μ',
    ⟨xs.length, _, μ1, [], [], lay0, w1.barDc hD, upd_same, RKs.nil, by omega, Nat.le_refl _, by simpa using q1⟩, fun i m H' hW => ?_⟩
  obtain ⟨dB, μ', kvs, ws, eB, wB, hDv, rA, em, hal, q2⟩ := hW
  have hDban : D ∈ dB.ban := by rw [eB.ban]; exact List.mem_cons_self
  obtain ⟨itg, its⟩ := it _ dB H' μ' bD eB wB
  cases hx : xs[i]? with
  | none =>
    have hle : xs.length ≤ i := List.getElem?_eq_none_iff.mp hx
    rw [List.drop_of_length_le hle] at q2
    exact .inl ⟨its i hle, fin d1 H1 D dB H' μ' kvs ws e1 hD (w1.notban hD) eB wB hDv rA q2⟩
  | some x =>
    have hlt : i < xs.length := (List.getElem?_eq_some_iff.mp hx).1
    rw [drop_cons hx] at q2
    obtain ⟨go, yl⟩ := itg i x hx
    refine .inr ⟨go, fun H3 => ∃ dB μ' kvs ws, Ext ⟨d1.am, D :: d1.ban⟩ H1 dB H3 ∧ WOk K dB H3 μ' ∧ H3 D = some (.dK ws) ∧ RKs K dB H3 kvs ws ∧ kvs.length ≤ i + 1 ∧ mDcL mg mt mk mv (wipeP ρ vs) P (xs.drop (i + 1)) kvs μ', fun H3 hN => ?_, fun v H3 hy => ?_⟩
    · obtain ⟨a1, a2, a3, a4, a5, a6, a7, a8, a9, a10⟩ := hN
      exact ⟨m - 1, by omega, a1, a2, a3, a4, a5, a6, a7, a8, by omega, a9, a10⟩
    · obtain ⟨ey, wy, ry⟩ := yl v H3 hy
      refine hg.run dB (wipe σ vs) H3 (wipeP ρ vs) μ' x v _ _ wy (envB.mono (eB.trans ey)) ry q2 fun d4 σ4 H4 ρ4 μ4 e4 w4 ee4 hl4 hs4 q4 => ⟨wipe_same hl4 hs4 hs, ?_⟩
      refine hc.run d4 σ4 H4 ρ4 μ4 _ _ w4 ee4 q4 fun d5 H5 μ5 b e5 w5 q5 => ?_
      have nD : D ∉ dB.am := (wB.ban D hDban).2
      have E5 : Ext dB H' d5 H5 := (ey.trans e4).trans e5
      have rk5 : RKs K d5 H5 kvs ws := rA.mono E5
      cases b
      · exact ⟨d5, μ5, kvs, ws, eB.trans E5, w5, E5.keep _ _ hDv nD, rk5, by omega, q5⟩
      · refine hk.run d5 σ4 H5 ρ4 μ5 _ _ w5 (ee4.mono e5) q5 fun d6 H6 μ6 y u e6 w6 r6 q6 => ?_
        refine hv.run d6 σ4 H6 ρ4 μ6 _ _ w6 ((ee4.mono e5).mono e6) q6 fun d7 H7 μ7 z u2 e7 w7 r7 q7 => ?_
        have E7 : Ext dB H' d7 H7 := (E5.trans e6).trans e7
        have hD7 : H7 D = some (.dK ws) := E7.keep _ _ hDv nD
        have ban7 : D ∈ d7.ban := by rw [E7.ban]; exact hDban
        cases ek : keyP y with
        | none => rw [ek] at q7; exact q7.elim
        | some k =>
          rw [ek] at q7
          have rk7 : RKs K d7 H7 (putP kvs k z) (putK ws k u2) := RKs.put r7 (rA.mono E7)
          have rk8 : RKs K d7 (upd H7 D (.dK (putK ws k u2))) (putP kvs k z) (putK ws k u2) := ⟨rk7.1, rk7.2.made ban7 (no_tupK hD7)⟩
          have hlen : ws.length = kvs.length := by have := congrArg List.length rA.1; simpa using this
          have hpl := putP_len kvs k z
          refine ⟨ws, k, keyP_rv r6 ek, hD7, by rw [hlen]; exact lim_lt' (by omega), d7, μ7, putP kvs k z, putK ws k u2, ?_, w7.made ban7 (no_tupK hD7), upd_same, rk8, by omega, q7⟩
          have E8 := eB.trans E7
          exact ⟨E8.am, E8.ban, fun b o hb hn => by rw [upd_ne (ne_of_none hb hD)]; exact E8.keep b o hb hn⟩
theorem dc_store {d1 dB : Wd} {H1 : Hp} {D : Addr} {kvs : List (Key × PV)} {ws : List (Key × V)} (e1 : Ext d H d1 H1) (hD : H1 D = none) (hDn : D ∉ d1.ban) (eB : Ext ⟨d1.am, D :: d1.ban⟩ H1 dB H') (w : WOk K dB H' μ) (hv : H' D = some (.dK ws)) (r : RKs K dB H' kvs ws) :
    Ext d H ⟨dB.am ++ [D], d1.ban⟩ H' ∧ WOk K ⟨dB.am ++ [D], d1.ban⟩ H' (μ ++ [.dk kvs]) ∧ RV K ⟨dB.am ++ [D], d1.ban⟩ H' (.mr μ.length) (.ref D) := by
  have hs : ∀ b ∈ d1.ban, b ∈ dB.ban := fun b hb => by rw [eB.ban]; exact List.mem_cons_of_mem _ hb
  have hb : D ∈ dB.ban := by rw [eB.ban]; exact List.mem_cons_self
  have hn := (w.ban D hb).2
  have hm : MOK K ⟨dB.am ++ [D], d1.ban⟩ H' D (.dk kvs) := ⟨ws, hv, r.1, r.2.pushed hb (no_tupK hv) hs⟩
  refine ⟨e1.trans ⟨?_, rfl, eB.keep⟩, w.pushed hb (no_tupK hv) hs hDn hm, .mr ?_⟩
  · obtain ⟨ex, q, f⟩ := eB.am
    refine ⟨ex ++ [D], by rw [q, List.append_assoc], fun p hp => ?_⟩
    rcases List.mem_append.mp hp with z | z
    · exact f p z
    · have e := List.mem_singleton.mp z
      subst e
      refine ⟨hD, fun z => hn ?_⟩
      rw [q]; exact List.mem_append_left _ z
  · show (dB.am ++ [D])[μ.length]? = some D
    rw [← w.len, List.getElem?_append_right (Nat.le_refl _)]
    simp
def mDc (mi : MI) (g : MG) (c : MT) (ek ev : ME) (s vs : List Nat) : ME := fun ρ μ P => (∀ i ∈ s, i ∈ vs) ∧ mi ρ μ fun xs μ1 => xs.length ≤ lim ∧ mDcL g c ek ev (wipeP ρ vs) (fun kvs μ2 => P (.mr μ2.length) (μ2 ++ [.dk kvs])) xs [] μ1
instance {wi mi g mg s tt mt tk mk tv mv vs} [hi : FI K wi mi] [hg : FG K g mg s] [hc : FT K tt mt] [hk : FE K tk mk] [hv : FE K tv mv] : FE K (tDc wi g tt tk tv vs) (mDc mi mg mt mk mv s vs) := ⟨fun d σ H ρ μ P Q w e q k => by
  refine dc_run w e q.1 q.2 fun d1 H1 D dB H' μ' kvs ws e1 hD hDn eB w' hv r p => ?_
  obtain ⟨x1, x2, x3⟩ := dc_store e1 hD hDn eB w' hv r
  exact k _ H' _ _ _ x1 x2 x3 p⟩
end
theorem firstMet_ok (f : Nat → Int) : ∀ n : Nat, (PyProof.Rows.firstMet f n).Nodup ∧ ∀ k, k ∈ PyProof.Rows.firstMet f n ↔ k ∈ (List.range n).map f
  | 0 => ⟨List.nodup_nil, fun k => by simp [PyProof.Rows.firstMet_zero]⟩
  | n + 1 => by
    obtain ⟨h1, h2⟩ := firstMet_ok f n
    rw [PyProof.Rows.firstMet_succ]
    show (if (PyProof.Rows.firstMet f n).any (· == f n) then PyProof.Rows.firstMet f n else PyProof.Rows.firstMet f n ++ [f n]).Nodup ∧ _
    by_cases c : f n ∈ PyProof.Rows.firstMet f n
    · have c' : (PyProof.Rows.firstMet f n).any (· == f n) = true := List.any_eq_true.mpr ⟨_, c, by simp⟩
      rw [if_pos c']
      refine ⟨h1, fun k => ?_⟩
      show k ∈ (if (PyProof.Rows.firstMet f n).any (· == f n) then PyProof.Rows.firstMet f n else PyProof.Rows.firstMet f n ++ [f n]) ↔ _
      rw [if_pos c', h2, List.range_succ, List.map_append, List.mem_append]
      refine ⟨.inl, fun q => q.elim id fun q => ?_⟩
      have : k = f n := by simpa using q
      rw [this]
      exact (h2 _).mp c
    · have c' : ¬ (PyProof.Rows.firstMet f n).any (· == f n) = true := fun q => by
        obtain ⟨y, hy, e⟩ := List.any_eq_true.mp q
        have : y = f n := by simpa using e
        exact c (this ▸ hy)
      rw [if_neg c']
      refine ⟨?_, fun k => ?_⟩
      · rw [List.nodup_append]
        refine ⟨h1, by simp, fun x hx y hy => ?_⟩
        rw [List.mem_singleton.mp hy]
        intro q; subst q; exact c hx
      · show k ∈ (if (PyProof.Rows.firstMet f n).any (· == f n) then PyProof.Rows.firstMet f n else PyProof.Rows.firstMet f n ++ [f n]) ↔ _
        rw [if_neg c', List.range_succ, List.map_append, List.mem_append, List.mem_append, h2]
        simp
def tLenSetL (K : PySem.W.Frag) (te : TE) : TE := fun σ H Q => te σ H fun v H1 => ∃ (p : Addr) (ns : List Int), v = .ref p ∧ SqL K H1 p (ns.map V.int) ∧ ns.length ≤ 4000 ∧
  ∀ ms : List Int, ms.Nodup → (∀ k : Int, k ∈ ms ↔ k ∈ ns) → Q (.int (ms.length : Nat)) H1
theorem pe_lenSetL {X : Cx} {a : Expr} {ta : TE} {p p2 q pos : Pos} (hc : X.calm = true) (hg : Gl X "len") (hm : X.mg "len" = none) (hg2 : Gl X "set") (hm2 : X.mg "set" = none) (ha : PE X a ta)
    (na : starEach [a] X.env = (false, eval a X.env) :: starEach [] X.env := by rfl) : PE X (.Call (.Name "len" p) [.Call (.Name "set" p2) [a] [] q] [] pos) (tLenSetL X.K ta) := ⟨fun pins s σ H Q I h => Call_ (ld_blt I hg hm boot_len (by
  refine PyProof.Rows.callWith_builtin1 (PyProof.Rows.args_cons ?_ rfl) rfl rfl; refine Call_ (ld_blt I hg2 hm2 boot_set (PyProof.Rows.callWith_type1 (PyProof.Rows.args_cons (thn (ha.run pins s σ H _ I h) fun v s1 ⟨x, H1, I1, r1, q1⟩ => PyProof.Rows.args_nil ?_) na) na rfl))
  obtain ⟨l, ns, rfl, hq, hl, q1⟩ := q1; cases r1; obtain ⟨its, r, pl, hz⟩ := I1.list hq
  have hlen : its.toArray.size = ns.length := by rw [List.size_toArray, ← r.length, List.length_map]
  refine call_set_list (I1.ok.hd hc) pl.isList (by simpa using intsAre_vals r) (by rw [hlen]; unfold scanBound; omega) fun h' tk hS hk => PyProof.Rows.args_nil ?_
  obtain ⟨f1, f2⟩ := firstMet_ok (fun i => ns.getD i 0) its.toArray.size
  have f3 : (List.range its.toArray.size).map (fun i => ns.getD i 0) = ns := by
    rw [hlen]
    refine List.ext_getElem (by simp) fun i h1 h2 => ?_
    rw [List.getElem_map, List.getElem_range, List.getD_eq_getElem?_getD, List.getElem?_eq_getElem h2]; rfl
  rw [f3] at f2
  have f4 : (PyProof.Rows.firstMet (fun i => ns.getD i 0) its.toArray.size).length ≤ its.toArray.size := PyProof.Rows.firstMet_length_le _ _
  obtain ⟨o, es, ep, t, ho, hex, hd, _, _, _, hf, hn⟩ := hS
  have I2 : Inv X pins σ H1 { s1 with heap := h', toks := tk } := I1.kept fun b o e => hk b o (Heap.lt_size e) e
  exact call_len_set ho hex hd hf (by rw [hn] <;> omega) ⟨.int ((PyProof.Rows.firstMet (fun i => ns.getD i 0) its.toArray.size).length : Nat), H1, I2.tok _, ⟨_, by rw [hn]⟩, q1 _ f1 f2⟩))⟩
section
variable {K : PySem.W.Frag}
def mLenSetL (m : ME) : ME := fun ρ μ P => m ρ μ fun x μ1 => match x with | .lst ys => (match intsP ys with | some ns => ns.length ≤ 4000 ∧ ∀ ms : List Int, ms.Nodup → (∀ k : Int, k ∈ ms ↔ k ∈ ns) → P (.int (ms.length : Nat)) μ1 | none => False) | _ => False
instance {t m} [h : FE K t m] : FE K (tLenSetL K t) (mLenSetL m) := ⟨fun d σ H ρ μ P Q w e q k => by
  refine h.run d σ H ρ μ _ _ w e q fun d1 H1 μ1 x v e1 w1 r1 q1 => ?_
  match x, r1, q1 with
  | .lst ys, .lst (a := a) (vs := vs) h1 h2, q1 =>
    simp only at q1
    cases e2 : intsP ys with
    | none => rw [e2] at q1; exact q1.elim
    | some ns =>
      rw [e2] at q1
      have ev := RVs.ints_of h2 (intsP_of e2)
      subst ev
      exact ⟨a, ns, rfl, h1.sq, q1.1, fun ms hs hm => k d1 H1 μ1 _ _ e1 w1 (.int _) (q1.2 ms hs hm)⟩⟩
end
end Fx
namespace Fx
open PySem PySem.Spec PyProof.Rows L2 RZ
end Fx
namespace Fx
open PySem PySem.Spec PyProof.Rows L2 RZ
abbrev SB := V × PyData × PV
def leB (a b : SB) : Bool := PySem.W.dataLe false (fun x : SB => x.2.1) a b
theorem each_of {R : Value → SB → Prop} : ∀ {bs : List SB} {us : List Value}, Vals (bs.map (·.1)) us → (∀ b ∈ bs, ∀ u, RelV b.1 u → R u b) → PySem.W.EachIs R us bs
  | [], us, h, _ => by cases h; exact .nil
  | b :: bs, us, h, hR => by
    cases h with
    | cons h1 h2 => exact .cons (hR b List.mem_cons_self _ h1) (each_of h2 fun c hc => hR c (List.mem_cons_of_mem _ hc))
theorem vals_each : ∀ {out : List Value} {bs : List SB}, PySem.W.EachIs (fun u (b : SB) => RelV b.1 u) out bs → Vals (bs.map (·.1)) out
  | _, _, .nil => .nil
  | _, _, .cons h t => .cons h (vals_each t)
end Fx
namespace Fx
open PySem PySem.Spec PyProof.Rows L2 RZ
section
variable {K : PySem.W.Frag} {d : Wd} {H : Hp} {μ : Store}
theorem rvs_pick : ∀ {L : List SB}, (∀ b ∈ L, RV K d H b.2.2 b.1) → RVs K d H (L.map (·.2.2)) (L.map (·.1))
  | [], _ => .nil
  | b :: L, h => .cons (h b List.mem_cons_self) (rvs_pick fun c hc => h c (List.mem_cons_of_mem _ hc))
end
end Fx
namespace Fx
open PySem PySem.Spec PyProof.Rows L2 RZ
section
variable {K : PySem.W.Frag} {d d' : Wd} {H H' : Hp} {a b : Addr} {vs us : List V} {xs ys : List PV} {μ : Store}
end
end Fx
namespace Fx
open PySem PySem.Spec PyProof.Rows L2 RZ
end Fx
namespace Fx
open PySem PySem.Spec PyProof.Rows L2 RZ
def valNT (kvs : List (KN × PV)) (k : KN) : Option PV := (kvs.find? fun kv => decide (kv.1 = k)).map (·.2)
def putNT (kvs : List (KN × PV)) (k : KN) (v : PV) : List (KN × PV) :=
  if (valNT kvs k).isSome then kvs.map (fun kv => if kv.1 = k then (kv.1, v) else kv) else kvs ++ [(k, v)]
def RNs (K : PySem.W.Frag) (d : Wd) (H : Hp) (kvs : List (KN × PV)) (ks : List (KN × Addr × V)) : Prop :=
  ks.map (·.1) = kvs.map (·.1) ∧ RVs K d H (kvs.map fun kv => nkK kv.1) (ks.map fun p => .ref p.2.1) ∧ RVs K d H (kvs.map (·.2)) (ks.map (·.2.2))
section
variable {K : PySem.W.Frag} {d d' : Wd} {H H' : Hp} {a b : Addr} {vs us : List V} {xs ys : List PV} {μ : Store}
theorem RNs.nil : RNs K d H [] [] := ⟨rfl, .nil, .nil⟩
theorem RNs.cases {kvs : List (KN × PV)} {ks : List (KN × Addr × V)} (r : RNs K d H kvs ks) : (kvs = [] ∧ ks = []) ∨ ∃ k b x v kvs' ks', kvs = (k, x) :: kvs' ∧ ks = (k, b, v) :: ks' ∧ RV K d H (nkK k) (.ref b) ∧ RV K d H x v ∧ RNs K d H kvs' ks' := by
  obtain ⟨h1, h2, h3⟩ := r
  cases kvs with
  | nil => simp at h1; exact .inl ⟨rfl, h1⟩
  | cons p kvs =>
    cases ks with
    | nil => simp at h1
    | cons q ks =>
      obtain ⟨k, x⟩ := p
      obtain ⟨k', b, v⟩ := q
      simp only [List.map_cons, List.cons.injEq] at h1
      obtain ⟨e, h1⟩ := h1
      subst e
      cases h2 with
      | cons r t =>
        cases h3 with
        | cons r3 t3 => exact .inr ⟨_, _, _, _, _, _, rfl, rfl, r, r3, h1, t, t3⟩
theorem RNs.cons {k : KN} {b : Addr} {x : PV} {v : V} {kvs : List (KN × PV)} {ks : List (KN × Addr × V)} (rk : RV K d H (nkK k) (.ref b)) (r : RV K d H x v) (t : RNs K d H kvs ks) : RNs K d H ((k, x) :: kvs) ((k, b, v) :: ks) :=
  ⟨by simp only [List.map_cons, t.1], .cons rk t.2.1, .cons r t.2.2⟩
theorem RNs.mono (e : Ext d H d' H') {kvs : List (KN × PV)} {ks : List (KN × Addr × V)} (r : RNs K d H kvs ks) : RNs K d' H' kvs ks := ⟨r.1, r.2.1.mono e, r.2.2.mono e⟩
theorem RNs.len {kvs : List (KN × PV)} {ks : List (KN × Addr × V)} (r : RNs K d H kvs ks) : kvs.length = ks.length := by
  have := congrArg List.length r.1
  simpa using this.symm
theorem RNs.append {kvs kvs' : List (KN × PV)} {ks ks' : List (KN × Addr × V)} (r : RNs K d H kvs ks) (t : RNs K d H kvs' ks') : RNs K d H (kvs ++ kvs') (ks ++ ks') := by
  refine ⟨by rw [List.map_append, List.map_append, r.1, t.1], ?_, ?_⟩
  · rw [List.map_append, List.map_append]
    exact r.2.1.append t.2.1
  · rw [List.map_append, List.map_append]
    exact r.2.2.append t.2.2
theorem nkK_sq {k : KN} (r : RV K d H (nkK k) (.ref b)) : SqN K H b k := by
  cases r with
  | tup h1 h2 =>
    cases h2 with
    | cons q1 t =>
      cases t with
      | cons q2 t2 =>
        cases t2
        cases q2
        cases q1 with
        | @tup _ c us h3 h4 =>
          have := RVs.ints h4
          subst this
          exact ⟨c, h1.sq, h3.sq⟩
theorem RNs.sq : ∀ {kvs : List (KN × PV)} {ks : List (KN × Addr × V)}, RNs K d H kvs ks → ∀ p ∈ ks, SqN K H p.2.1 p.1
  | [], ks, r, p, hp => by
    rcases r.cases with ⟨_, e⟩ | ⟨_, _, _, _, _, _, e, _⟩
    · subst e; simp at hp
    · cases e
  | q :: kvs, ks, r, p, hp => by
    rcases r.cases with ⟨e, _⟩ | ⟨k, b, x, v, kvs', ks', e1, e2, r1, r2, t⟩
    · cases e
    · cases e1; subst e2
      rcases List.mem_cons.mp hp with rfl | hp
      · exact nkK_sq r1
      · exact RNs.sq t p hp
theorem RNs.val {k : KN} : ∀ {kvs : List (KN × PV)} {ks : List (KN × Addr × V)}, RNs K d H kvs ks → (valNT kvs k = none ∧ valN ks k = none) ∨ ∃ x v, valNT kvs k = some x ∧ valN ks k = some v ∧ RV K d H x v
  | [], ks, r => by
    rcases r.cases with ⟨_, e⟩ | ⟨_, _, _, _, _, _, e, _⟩
    · subst e; exact .inl ⟨rfl, rfl⟩
    · cases e
  | p :: kvs, ks, r => by
    rcases r.cases with ⟨e, _⟩ | ⟨k', b, x, v, kvs', ks', e1, e2, r1, r2, t⟩
    · cases e
    · cases e1; subst e2
      by_cases h : k' = k
      · subst h
        exact .inr ⟨x, v, by simp [valNT], by simp [valN], r2⟩
      · have := RNs.val (k := k) t
        have a1 : valNT ((k', x) :: kvs) k = valNT kvs k := by simp [valNT, List.find?_cons, h]
        have a2 : valN ((k', b, v) :: ks') k = valN ks' k := by simp [valN, List.find?_cons, h]
        rw [a1, a2]; exact this
theorem RNs.upd1 {k : KN} {x : PV} {v : V} (rx : RV K d H x v) : ∀ {kvs : List (KN × PV)} {ks : List (KN × Addr × V)}, RNs K d H kvs ks → RNs K d H (kvs.map (fun kv => if kv.1 = k then (kv.1, x) else kv)) (ks.map fun p => if p.1 = k then (p.1, p.2.1, v) else p)
  | [], ks, r => by
    rcases r.cases with ⟨_, e⟩ | ⟨_, _, _, _, _, _, e, _⟩
    · subst e; exact .nil
    · cases e
  | p :: kvs, ks, r => by
    rcases r.cases with ⟨e, _⟩ | ⟨k', b, x', v', kvs', ks', e1, e2, r1, r2, t⟩
    · cases e
    · cases e1; subst e2
      rw [List.map_cons, List.map_cons]
      by_cases h : k' = k
      · simp only [h, if_true]
        exact .cons (h ▸ r1) rx (RNs.upd1 rx t)
      · simp only [h, if_false]
        exact .cons r1 r2 (RNs.upd1 rx t)
theorem RNs.put {k : KN} {x : PV} {v : V} (rk : RV K d H (nkK k) (.ref b)) (rx : RV K d H x v) {kvs : List (KN × PV)} {ks : List (KN × Addr × V)} (r : RNs K d H kvs ks) : RNs K d H (putNT kvs k x) (putN ks k b v) := by
  unfold putNT putN
  have e : (valNT kvs k).isSome = (valN ks k).isSome := by
    rcases r.val (k := k) with ⟨z, z'⟩ | ⟨x, v, z1, z2, _⟩
    · rw [z, z']; rfl
    · rw [z1, z2]; rfl
  rw [e]
  split
  · exact r.upd1 rx
  · exact r.append (.cons rk rx .nil)
def nkP : PV → Option KN
  | .tup [.tup xs, .int r] => (intsP xs).map fun k => (k, r)
  | _ => none
theorem nkP_of {x : PV} {k : KN} (h : nkP x = some k) : x = nkK k := by
  unfold nkP at h
  split at h
  · obtain ⟨ns, h1, rfl⟩ := Option.map_eq_some_iff.mp h
    rw [intsP_of h1]
  · cases h
theorem nkP_rv {x : PV} {v : V} {k : KN} (r : RV K d H x v) (h : nkP x = some k) : ∃ b, v = .ref b ∧ RV K d H (nkK k) (.ref b) ∧ SqN K H b k := by
  have := nkP_of h
  subst this
  have r' := r
  cases r with
  | tup h1 h2 => exact ⟨_, rfl, r', nkK_sq r'⟩
def tnP (x : PV) (μ : Store) : Option (List (KN × PV)) := match x with | .mr n => (match μ[n]? with | some (.nk kvs) => some kvs | some (.fn _ _ kvs) => some kvs | _ => none) | _ => none
theorem tn_of {x : PV} {v : V} {kvs : List (KN × PV)} (w : WOk K d H μ) (r : RV K d H x v) (h : tnP x μ = some kvs) : ∃ n a ks, x = .mr n ∧ v = .ref a ∧ d.am[n]? = some a ∧ DtAtN K H a ks ∧ RNs K d H kvs ks := by
  cases r with
  | @mr n a h1 =>
    unfold tnP at h
    simp only at h
    cases e : μ[n]? with
    | none => simp [e] at h
    | some m =>
      rw [e] at h
      cases m with
      | lst zs => cases h
      | dk zs => cases h
      | fd _ _ _ => cases h
      | tk _ => cases h
      | ft _ _ _ => cases h
      | nk zs =>
        injection h with h
        subst h
        obtain ⟨ks, q, r⟩ := w.obj h1 e
        have r : RNs K d H zs ks := r
        exact ⟨n, a, ks, rfl, rfl, h1, ⟨.inl q, r.sq⟩, r⟩
      | fn o ks zs =>
        injection h with h
        subst h
        obtain ⟨q, r⟩ := w.obj h1 e
        have r : RNs K d H zs ks := r
        exact ⟨n, a, ks, rfl, rfl, h1, ⟨.inr ⟨o, q⟩, r.sq⟩, r⟩
  | _ => cases h
def mDNewN : ME := fun _ μ P => P (.mr μ.length) (μ ++ [.nk []])
instance : FE K tDNewN mDNewN := ⟨fun d σ H ρ μ P Q w e q k => fun p hp => by
  have ee := Ext.push (o := DtN p []) w hp
  exact k (d.push p) _ _ _ _ ee (w.push (m := .nk []) hp ⟨[], upd_same, rfl, .nil, .nil⟩) (lay_mr w) q⟩
def mDGet2N (md my mx : ME) : ME := fun ρ μ P => md ρ μ fun x μ1 => (tnP x μ1).isSome = true ∧ my ρ μ1 fun y μ2 => mx ρ μ2 fun z μ3 => match tnP x μ3, nkP y with | some kvs, some k => P ((valNT kvs k).getD z) μ3 | _, _ => False
instance {td ty tx md my mx} [hd : FE K td md] [hy : FE K ty my] [hx : FE K tx mx] : FE K (tDGet2N K td ty tx) (mDGet2N md my mx) := ⟨fun d σ H ρ μ P Q w e q k => by
  refine hd.run d σ H ρ μ _ _ w e q fun d1 H1 μ1 x v e1 w1 r1 ⟨q0, q1⟩ => ?_
  obtain ⟨kv0, a0⟩ := Option.isSome_iff_exists.mp q0
  obtain ⟨n, a, ks0, rfl, rfl, hn, hq0, _⟩ := tn_of w1 r1 a0
  refine ⟨a, ks0, rfl, hq0.1, hy.run d1 σ H1 ρ μ1 _ _ w1 (e.mono e1) q1 fun d2 H2 μ2 y u e2 w2 r2 q2 => ?_⟩
  refine hx.run d2 σ H2 ρ μ2 _ _ w2 (e.mono (e1.trans e2)) q2 fun d3 H3 μ3 z t e3 w3 r3 q3 => ?_
  cases a1 : tnP (.mr n) μ3 with
  | none => rw [a1] at q3; exact q3.elim
  | some kvs =>
    cases a2 : nkP y with
    | none => rw [a1, a2] at q3; exact q3.elim
    | some kk =>
      rw [a1, a2] at q3
      simp only at q3
      obtain ⟨n', a', ks, en, ea, _, hq, rk⟩ := tn_of w3 ((r1.mono e2).mono e3) a1
      cases ea
      obtain ⟨b, rfl, rb, sb⟩ := nkP_rv (r2.mono e3) a2
      refine ⟨ks, b, kk, rfl, hq, sb, ?_⟩
      rcases rk.val (k := kk) with ⟨z1, z2⟩ | ⟨x, v, z1, z2, rv⟩
      · rw [z1] at q3
        rw [z2]
        exact k d3 H3 μ3 _ _ ((e1.trans e2).trans e3) w3 r3 q3
      · rw [z1] at q3
        rw [z2]
        exact k d3 H3 μ3 _ _ ((e1.trans e2).trans e3) w3 rv q3⟩
def mDPutN (md my mv : ME) : MS := fun P ρ μ => mv ρ μ fun z μ1 => md ρ μ1 fun x μ2 => my ρ μ2 fun y μ3 => match x, nkP y with | .mr n, some k => (match μ3[n]? with | some (.nk kvs) => kvs.length ≤ lim ∧ P.nx ρ (μ3.set n (.nk (putNT kvs k z))) | _ => False) | _, _ => False
instance {td ty tv md my mv} [hd : FE K td md] [hy : FE K ty my] [hv : FE K tv mv] : FS K (sDPutN K td ty tv) (mDPutN md my mv) := ⟨fun d σ H ρ μ P D w e q l => by
  refine hv.run d σ H ρ μ _ _ w e q fun d1 H1 μ1 z t e1 w1 r1 q1 => ?_
  refine hd.run d1 σ H1 ρ μ1 _ _ w1 (e.mono e1) q1 fun d2 H2 μ2 x v e2 w2 r2 q2 => ?_
  refine hy.run d2 σ H2 ρ μ2 _ _ w2 (e.mono (e1.trans e2)) q2 fun d3 H3 μ3 y u e3 w3 r3 q3 => ?_
  cases r2 with
  | @mr n a h1 =>
    cases a2 : nkP y with
    | none => rw [a2] at q3; exact q3.elim
    | some kk =>
      rw [a2] at q3
      simp only at q3
      split at q3
      · rename_i kvs a3
        have h3 := e3.at h1
        obtain ⟨ks, hq, rk⟩ := w3.obj h3 a3
        have rk : RNs K d3 H3 kvs ks := rk
        obtain ⟨b, rfl, rb, sb⟩ := nkP_rv r3 a2
        have ha : a ∈ d3.am := List.mem_of_getElem? h3
        have ee : Ext d3 H3 d3 (upd H3 a (DtN a (putN ks kk b t))) := Ext.chg ha
        have rk' := (rk.put rb (r1.mono (e2.trans e3))).mono ee
        refine ⟨a, ks, b, kk, rfl, rfl, hq, rk.sq, by rw [← rk.len]; exact lim_lt' q3.1, sb, ?_⟩
        exact l.nx d3 σ _ ρ _ (((e1.trans e2).trans e3).trans ee) (w3.chg (m := .nk (putNT kvs kk z)) h3 ⟨_, upd_same, rk'⟩) (e.mono (((e1.trans e2).trans e3).trans ee)) q3.2
      · exact q3.elim
  | _ => exact q3.elim⟩
end
def tLockEN (i : Nat) (t : TE) : TE := tLockE t
theorem pe_lockN (i : Nat) {X : Cx} {e : Expr} {t : TE} (h : PE X e t) : PE X e (tLockEN i t) := pe_lock h
section
variable {K : PySem.W.Frag} {d d' : Wd} {H H' : Hp} {a b : Addr} {vs us : List V} {xs ys : List PV} {μ : Store}
theorem lock_inN {n : Nat} {kvs : List (KN × PV)} (w : WOk K d H μ) (h1 : d.am[n]? = some a) (h2 : μ[n]? = some (.nk kvs)) :
    ∃ ks, H a = some (DtN a ks) ∧ ∀ od, Ext d H d (upd H a (.frz od (DtN a ks))) ∧ WOk K d (upd H a (.frz od (DtN a ks))) (μ.set n (.fn od ks kvs)) ∧
      ∀ d' H' μ', Ext d (upd H a (.frz od (DtN a ks))) d' H' → WOk K d' H' μ' → μ'[n]? = some (.fn od ks kvs) →
        H' a = some (.frz od (DtN a ks)) ∧ Ext d H d' (upd H' a (DtN a ks)) ∧ Ext d' H' d' (upd H' a (DtN a ks)) ∧ WOk K d' (upd H' a (DtN a ks)) (μ'.set n (.nk kvs)) := by
  obtain ⟨ks, hq, k0, k1, k2⟩ := w.obj h1 h2
  have ha : a ∈ d.am := List.mem_of_getElem? h1
  refine ⟨ks, hq, fun od => ?_⟩
  have ee : Ext d H d (upd H a (.frz od (DtN a ks))) := Ext.chg ha
  refine ⟨ee, w.chg (m := .fn od ks kvs) h1 ⟨upd_same, k0, k1.mono ee, k2.mono ee⟩, fun d' H' μ' f w' h3 => ?_⟩
  have h4 : d'.am[n]? = some a := f.at h1
  have ha' : a ∈ d'.am := List.mem_of_getElem? h4
  obtain ⟨q1, q0, q2, q3⟩ := w'.obj h4 h3
  have ef : Ext d' H' d' (upd H' a (DtN a ks)) := Ext.chg ha'
  exact ⟨q1, (ee.trans f).trans ef, ef, w'.chg (m := .nk kvs) h4 ⟨ks, upd_same, q0, q2.mono ef, q3.mono ef⟩⟩
def mLockEN (i : Nat) (me : ME) : ME := fun ρ μ P => match ρ[i]? with
  | some (some (.mr n)) => (match μ[n]? with
    | some (.nk kvs) => ∀ o ks, me ρ (μ.set n (.fn o ks kvs)) fun x μ' => μ'[n]? = some (.fn o ks kvs) ∧ P x (μ'.set n (.nk kvs))
    | _ => False)
  | _ => False
instance {i t m} [h : FE K t m] : FE K (tLockEN i t) (mLockEN i m) := ⟨fun d σ H ρ μ P Q w e q k => by
  unfold mLockEN at q
  split at q
  · rename_i n e1
    split at q
    · rename_i kvs e2
      obtain ⟨v, hv, r⟩ := e.2 i _ e1
      cases r with
      | @mr _ a h1 =>
        obtain ⟨ks, hq, hin⟩ := lock_inN w h1 e2
        refine ⟨a, DtN a ks, hq, trivial, fun od => ?_⟩
        obtain ⟨ee, w', back⟩ := hin od
        refine h.run d σ _ ρ _ _ _ w' (e.mono ee) (q od ks) fun d' H' μ' x v f wk rx ⟨q1, q2⟩ => ?_
        obtain ⟨b1, b2, b3, b4⟩ := back d' H' μ' f wk q1
        exact ⟨b1, k d' _ _ x v b2 b4 (rx.mono b3) q2⟩
    · exact q.elim
  · exact q.elim⟩
theorem rns_get {kvs : List (KN × PV)} {ks : List (KN × Addr × V)} (r : RNs K d H kvs ks) {i : Nat} {p : KN × Addr × V} (h : ks[i]? = some p) : ∃ x, kvs[i]? = some (p.1, x) ∧ RV K d H (nkK p.1) (.ref p.2.1) ∧ RV K d H x p.2.2 := by
  have hi : i < ks.length := (List.getElem?_eq_some_iff.mp h).1
  have hj : i < kvs.length := by rw [r.len]; exact hi
  have e1 : (ks.map (·.1))[i]? = some p.1 := by rw [List.getElem?_map, h]; rfl
  rw [r.1, List.getElem?_map, List.getElem?_eq_getElem hj] at e1
  have e1 : kvs[i].1 = p.1 := Option.some.inj e1
  have g1 : (kvs.map fun kv => (nkK kv.1))[i]? = some (nkK p.1) := by rw [List.getElem?_map, List.getElem?_eq_getElem hj, ← e1]; rfl
  have g2 : (kvs.map (·.2))[i]? = some kvs[i].2 := by rw [List.getElem?_map, List.getElem?_eq_getElem hj]; rfl
  obtain ⟨v1, h1, r1⟩ := RVs.get r.2.1 g1
  obtain ⟨v2, h2, r2⟩ := RVs.get r.2.2 g2
  rw [List.getElem?_map, h] at h1 h2
  cases h1
  cases h2
  exact ⟨kvs[i].2, by rw [List.getElem?_eq_getElem hj, ← e1], r1, r2⟩
def mValsN (m : ME) : MIC := fun ρ μ P => m ρ μ fun x μ1 => match x with | .mr n => (match μ1[n]? with | some (.fn o ks kvs) => P (kvs.map fun kv => kv.2) (fun μ2 => μ2[n]? = some (.fn o ks kvs)) μ1 | _ => False) | _ => False
instance {t m} [h : FE K t m] : FC K (iValsN t) (mValsN m) := ⟨fun d σ H ρ μ P R w e q k => by
  refine h.run d σ H ρ μ _ _ w e q fun d1 H1 μ1 x v e1 w1 r1 q1 => ?_
  cases r1 with
  | @mr n a h1 =>
    simp only at q1
    split at q1
    · rename_i o ks kvs e2
      obtain ⟨hq, k1⟩ := w1.obj h1 e2
      refine ⟨a, o, ks, rfl, hq, k d1 H1 μ1 _ _ _ e1 w1 (fun d2 d3 H3 μ3 bb ee w3 hC => ?_) q1⟩
      have h3 : d3.am[n]? = some a := ee.at (by rw [bb.1]; exact h1)
      obtain ⟨hq3, k3⟩ := w3.obj h3 hC
      have k3 : RNs K d3 H3 kvs ks := k3
      refine ⟨fun i x hx => ?_, fun i hi => ⟨hq3, by rw [← k3.len]; simpa using hi⟩⟩
      have hi : i < kvs.length := by simpa using (List.getElem?_eq_some_iff.mp hx).1
      refine ⟨⟨hq3, by rw [← k3.len]; exact hi⟩, fun u H4 hy => ?_⟩
      obtain ⟨rfl, p, hp, rfl⟩ := hy
      obtain ⟨y, hy1, _, hy2⟩ := rns_get k3 hp
      rw [List.getElem?_map, hy1] at hx
      have hx := Option.some.inj hx
      rw [← hx]
      exact ⟨.refl, w3, hy2⟩
    · exact q1.elim
  | _ => exact q1.elim⟩
def pLenN : MB := fun xs μ P => match xs with | [x] => (match tnP x μ with | some kvs => P (.int (kvs.length : Nat)) μ | none => False) | _ => False
instance : FB K (rLenN K) pLenN := ⟨fun d H μ xs vs P Q w r q k => by
  match xs, r, q with
  | [x], .cons r .nil, q =>
    unfold pLenN at q
    simp only at q
    cases e : tnP x μ with
    | none => rw [e] at q; exact q.elim
    | some kvs =>
      rw [e] at q
      obtain ⟨n, a, ks, rfl, rfl, _, hq, rk⟩ := tn_of w r e
      refine ⟨a, ks, rfl, hq, ?_⟩
      rw [← rk.len]
      exact k d H μ _ _ .refl w (.int _) q⟩
end
theorem huN_of {A : Around} {k : Nat} (hr : Room k A) : A.units + 9 < cLine := Nat.lt_of_le_of_lt (Nat.add_le_add_left (by decide : 9 ≤ 64) _) hr.units
end Fx
namespace Fx
open PySem PySem.Spec PyProof.Rows L2 RZ
def rSortTX (K : PySem.W.Frag) : List V → Hp → VK → Prop := fun vs H Q => ∃ (a : Addr) (ks : List (List Int × Addr × V)) (bs : List SB), vs = [V.ref a] ∧ DtAt K H a ks ∧ bs.map (·.1) = (ks.map fun p => V.ref p.2.1) ∧ (∀ b ∈ bs, Dp K H b.1 b.2.1) ∧
  PySem.W.AllAlike (bs.map (·.2.1)) ∧ PySem.W.Sortable (bs.map (·.2.1)) ∧ bs.length < 64 ∧ (∀ b ∈ bs, b.2.1.depth ≤ 60) ∧
  ∀ p : Addr, H p = none → Q (.ref p) (upd H p (.lst ((bs.mergeSort leB).map (·.1))))
theorem cr_sortTX {X : Cx} (hc : X.calm = true) (hu : X.A.units + 64 < cLine) : CallR X (.builtin "sorted") (rSortTX X.K) := by
  intro pins s σ H vs us Q I r h
  obtain ⟨a, kvs, bs, rfl, hd, e0, hdd, hal, hsr, h64, hdp, q⟩ := h
  rw [Vals.ref1 r]
  obtain ⟨z, hs, ks, pr, o, es, ep, ho, hx, hdt, he, hn⟩ := I.dtR hd.1
  have l1 : es.size = ks.length := by rw [← Array.length_toList, he, List.length_map]
  have l2 : kvs.length = ks.length := Paired.length pr
  have l3 : kvs.map (fun p => p.2.1) = ks.map fun x => x.2.1 := pr.addrs
  have l5 : bs.length = ks.length := by rw [← l2]; have := congrArg List.length e0; simpa using this
  refine Calls.call_function_entry PyProof.Rows.kind_sorted PyProof.Rows.plain_sorted PyProof.Rows.entry_sorted (PyProof.Rows.args_sorted1 _) ?_
  unfold Builtin.«sorted»
  refine wpAny_bind (m := checkCount "sorted" 1 1 _) (wpAny_pure ?_)
  refine wpAny_bind (PySem.W.kdu_collect (A := X.A.in1) (kdl_raw hs hx hdt) (I.ok.hd hc) ho (by rw [sizeLine_eq]; omega) fun h' tk acc' kp it => ?_)
  have ea : acc'.toList = ks.map fun x => Value.ref x.2.1 := by
    have hl : acc'.toList.length = ks.length := by rw [Array.length_toList, it.1]; exact l1
    apply List.ext_getElem?
    intro j
    rw [List.getElem?_map]
    cases hj : acc'.toList[j]? with
    | none =>
      have h1 := List.getElem?_eq_none_iff.mp hj
      rw [List.getElem?_eq_none (by omega)]
      all_goals rfl
    | some v =>
      obtain ⟨en, hen, hv⟩ := it.2 j v (by rw [← Array.getElem?_toList]; exact hj)
      have qe : es[j]? = (ks[j]?).map entX := by rw [← Array.getElem?_toList, he, List.getElem?_map]
      rw [hen] at qe
      cases hb : ks[j]? with
      | none =>
        rw [hb] at qe
        exact nomatch (show some en = none from qe)
      | some b =>
        rw [hb] at qe
        have e2 : en = entX b := Option.some.inj qe
        rw [hv, e2]
        all_goals rfl
  have eb : acc'.toList = (ks.map fun x => x.2.1).map Value.ref := by rw [ea, List.map_map]; all_goals rfl
  have rv : Vals (bs.map (·.1)) acc'.toList := by
    have e9 : (bs.map (·.1)) = (ks.map fun x => x.2.1).map V.ref := by rw [e0, ← l3, List.map_map]; rfl
    rw [e9, eb]
    exact vals_refs _
  have I1 : Inv X pins σ H { s with heap := h', toks := tk } := I.kept kp
  have hal9 : acc'.toList.length = bs.length := by rw [eb, List.length_map, List.length_map]; omega
  refine wpAny_bind (wpAny_newList ?_ (by rw [hal9, sizeLine_eq]; omega))
  have hoL : (h'.push (seqObj "list" acc'.toList.toArray 0)).get? h'.objs.size = some (seqObj "list" acc'.toList.toArray 0) := Heap.get?_push_size _ rfl
  have hrd : ∀ b ∈ bs, ∀ u, RelV b.1 u → ∃ as, Reads h' u b.2.1 as := fun b hb u hu => Dp.reads I1 b.2.1 b.1 u (hdd b hb) hu
  have e1 : PySem.W.EachIs (fun u (b : SB) => RelV b.1 u) acc'.toList bs := each_of rv fun _ _ _ h => h
  have e2 : PySem.W.EachIs (fun u (b : SB) => ∃ as, Reads h' u b.2.1 as) acc'.toList bs := each_of rv hrd
  have e3 : PySem.W.EachIs (fun u (b : SB) => ∃ as, Reads (PySem.W.sortingHeap (h'.push (seqObj "list" acc'.toList.toArray 0)) h'.objs.size acc'.toList) u b.2.1 as) acc'.toList bs :=
    e2.mono fun _ _ ⟨as, rr⟩ => ⟨as, PyProof.Rows.Reads.keeps (fun b ob hq => by
      have hlt : b < h'.objs.size := Heap.lt_size hq
      exact (PySem.W.sortingHeap_old (Nat.ne_of_lt hlt) (Heap.get?_push_of_some _ hq))) rr⟩
  have hlen : ((bs.mergeSort leB).map (·.1)).length ≤ sizeLine := by rw [List.length_map, List.length_mergeSort, sizeLine_eq]; omega
  have hS := PySem.W.SortsAt.data (prog := X.prog) (w := X.w) (A := X.A.in1.in1) (s := { s with heap := PySem.W.sortingHeap (h'.push (seqObj "list" acc'.toList.toArray 0)) h'.objs.size acc'.toList, toks := tk }) (PySem.W.each_map (R := fun v d => ∃ as, Reads (PySem.W.sortingHeap (h'.push (seqObj "list" acc'.toList.toArray 0)) h'.objs.size acc'.toList) v d as) (fun b : SB => b.2.1) e3) hal hsr (PySem.W.bound_map fun b hb => by
    have h0 := hdp b hb
    show X.A.units + 1 + 1 + b.2.1.depth < cLine
    omega)
  show wpAny _ _ _ _ _ { s with heap := h'.push (seqObj "list" acc'.toList.toArray 0), toks := tk }
  refine wpAny_bind (wpAny_holding (wpAny_call_entry slot_list_sort ⟨_, hoL, rfl⟩ entry_list_sort (PySem.W.list_sort_vals (P := _) hoL hS (by rw [hal9, sizeLine_eq]; omega) ⟨.none, rfl, ?_⟩) (args_list_sort _)))
  have hE := PySem.W.sortVals_data false e1 e3 hal
  generalize hout : PySem.W.sortVals (PySem.W.dataKind (PySem.W.sortingHeap (h'.push (seqObj "list" acc'.toList.toArray 0)) h'.objs.size acc'.toList) (bs.map fun b => b.2.1)) false acc'.toList acc'.toList = out at hE
  obtain ⟨ep2, he2⟩ := PyProof.Rows.sortedHeap_at (vs := acc'.toList) (out := out.toArray) hoL
  refine wpAny_pure ⟨_, rfl, .ref h'.objs.size, upd H h'.objs.size (.lst ((bs.mergeSort leB).map (·.1))), I1.laid (t' := tk) (fun b u e => ?_) (Nat.le_refl _)
    (show ObjOk X.prog X.w _ _ _ (.lst ((bs.mergeSort leB).map (·.1))) from ⟨hlen, out, ep2, vals_each hE, he2⟩), rfl, q _ (I1.hok.fresh (Nat.le_refl _))⟩
  have hlt : b < h'.objs.size := Heap.lt_size e
  rw [PyProof.Rows.sortedHeap_old (Nat.ne_of_lt hlt) (by rw [size_push']; exact Nat.lt_succ_of_lt hlt)]
  exact Heap.get?_push_of_some _ e
section
variable {K : PySem.W.Frag} {d : Wd} {H : Hp} {μ : Store}
def tkD (k : List Int) : PyData := .tuple (k.map .int)
theorem datPs_intsT : ∀ l : List Int, datPs (l.map PV.int) = some (l.map PyData.int)
  | [] => rfl
  | i :: l => by rw [List.map_cons, datPs, datPs_intsT l]; rfl
theorem dat_tkK (k : List Int) : datP (tkK k) = some (tkD k) := by
  unfold tkK datP
  rw [datPs_intsT]
  rfl
def pSortTX : MB := fun xs μ P => match xs with
  | [x] => (match tdP x μ with | some kvs => (PySem.W.AllAlike (kvs.map fun kv => tkD kv.1) ∧ PySem.W.Sortable (kvs.map fun kv => tkD kv.1) ∧ kvs.length < 64 ∧ ∀ kv ∈ kvs, (tkD kv.1).depth ≤ 60) ∧ ∀ zs : List PV, zs.Perm (kvs.map fun kv => tkK kv.1) → P (.lst zs) μ | none => False)
  | _ => False
theorem sbT_of : ∀ {kvs : List (List Int × PV)} {ks : List (List Int × Addr × V)}, RTs K d H kvs ks → ∃ bs : List (SB × List Int), bs.map (·.1.1) = (ks.map fun p => V.ref p.2.1) ∧ bs.map (·.2) = kvs.map (·.1) ∧ ∀ b ∈ bs, Dp K H b.1.1 b.1.2.1 ∧ RV K d H b.1.2.2 b.1.1 ∧ b.1.2.1 = tkD b.2 ∧ b.1.2.2 = tkK b.2
  | [], ks, r => by
    rcases r.cases with ⟨_, e⟩ | ⟨_, _, _, _, _, _, e, _⟩
    · subst e; exact ⟨[], rfl, rfl, by simp⟩
    · cases e
  | q :: kvs, ks, r => by
    rcases r.cases with ⟨e, _⟩ | ⟨k, b, x, v, kvs', ks', e1, e2, r1, r2, t⟩
    · cases e
    · cases e1; subst e2
      obtain ⟨bs, b1, b2, b3⟩ := sbT_of t
      refine ⟨((V.ref b, tkD k, tkK k), k) :: bs, by rw [List.map_cons, b1]; rfl, by rw [List.map_cons, b2]; rfl, fun c hc => ?_⟩
      rcases List.mem_cons.mp hc with rfl | hc
      · exact ⟨dat_dp r1 (dat_tkK k), r1, rfl, rfl⟩
      · exact b3 c hc
instance : FB K (rSortTX K) pSortTX := ⟨fun d H μ xs vs P Q w r q k => by
  match xs, r, q with
  | [x], .cons r .nil, q =>
    unfold pSortTX at q
    simp only at q
    cases e : tdP x μ with
    | none => rw [e] at q; exact q.elim
    | some kvs =>
      rw [e] at q
      obtain ⟨⟨q1, q2, q3, q4⟩, q⟩ := q
      obtain ⟨n, a, ks, rfl, rfl, _, hq, rk⟩ := td_of w r e
      obtain ⟨bs, b1, b2, b3⟩ := sbT_of rk
      have e3 : (bs.map (·.1)).map (·.2.1) = kvs.map fun kv => tkD kv.1 := by
        have : (kvs.map fun kv => tkD kv.1) = (bs.map (·.2)).map tkD := by rw [b2, List.map_map]; rfl
        rw [this, List.map_map, List.map_map]
        exact List.map_congr_left fun b hb => (b3 b hb).2.2.1
      have e4 : (bs.map (·.1)).length = kvs.length := by have := congrArg List.length e3; simpa using this
      refine ⟨a, ks, bs.map (·.1), rfl, hq, by rw [← b1, List.map_map]; rfl, fun b hb => ?_, by rw [e3]; exact q1, by rw [e3]; exact q2, by omega, fun b hb => ?_, fun p hn => ?_⟩
      · obtain ⟨c, hc, rfl⟩ := List.mem_map.mp hb
        exact (b3 c hc).1
      · have : b.2.1 ∈ (bs.map (·.1)).map (·.2.1) := List.mem_map.mpr ⟨b, hb, rfl⟩
        rw [e3] at this
        obtain ⟨kv, hkv, h1⟩ := List.mem_map.mp this
        rw [← h1]
        exact q4 kv hkv
      have hp : ((bs.map (·.1)).mergeSort leB).Perm (bs.map (·.1)) := List.mergeSort_perm _ _
      have rv : RVs K d H (((bs.map (·.1)).mergeSort leB).map (·.2.2)) (((bs.map (·.1)).mergeSort leB).map (·.1)) := rvs_pick fun b hb => by
        obtain ⟨c, hc, rfl⟩ := List.mem_map.mp (hp.mem_iff.mp hb)
        exact (b3 c hc).2.1
      have e5 : (bs.map (·.1)).map (·.2.2) = kvs.map fun kv => tkK kv.1 := by
        have : (kvs.map fun kv => tkK kv.1) = (bs.map (·.2)).map tkK := by rw [b2, List.map_map]; rfl
        rw [this, List.map_map, List.map_map]
        exact List.map_congr_left fun b hb => (b3 b hb).2.2.2
      exact k d _ μ _ _ (Ext.lay w hn) (w.lay hn) (lay_lst w rv hn) (q _ (by rw [← e5]; exact hp.map _))⟩
end
end Fx
namespace Fx
open PySem PySem.Spec PyProof.Rows L2 RZ MR
abbrev RwX := Option (List Nat × Nat × Nat × Nat)
def rowP : RwX → PV
  | none => .non
  | some x => .tup [lotP x.1, restP x.2.1 x.2.2.1, .int (x.2.2.2 : Nat)]
def RwB (x : RwX) : Prop := ∀ p, x = some p → (∀ o ∈ p.1, o < 2 ^ 100) ∧ p.1.length ≤ 12 ∧ p.2.1 < 2 ^ 100 ∧ p.2.2.1 < 2 ^ 100 ∧ p.2.2.2 < 2 ^ 100
theorem isNon_row (x : RwX) : isNonP (rowP x) = x.isNone := by cases x <;> rfl
theorem shb_row {x : RwX} (h : RwB x) : ShB 2 10000 (rowP x) := by
  cases x with
  | none => exact shb_non.mono (by decide) (by decide)
  | some p =>
    obtain ⟨h0, hl, h1, h2, h3⟩ := h p rfl
    have hk : ∀ y ∈ [lotP p.1, restP p.2.1 p.2.2.1, PV.int (p.2.2.2 : Nat)], ShB 1 3000 y := fun y hy => by
      rcases List.mem_cons.mp hy with rfl | hy
      · refine (shb_tup (d := 0) (l := 101) fun z hz => ?_).mono (by decide) (by rw [List.length_map]; omega)
        obtain ⟨o, ho, rfl⟩ := List.mem_map.mp hz
        exact shb_nat (h0 o ho)
      rcases List.mem_cons.mp hy with rfl | hy
      · exact (shb_rest h1 h2).mono (by decide) (by decide)
      · rw [List.mem_singleton.mp hy]
        exact (shb_nat h3).mono (by decide) (by decide)
    exact (shb_tup hk).mono (by decide) (by simp)
theorem pReprA_row2 {x : RwX} {μ : Store} {P : PV → Store → Prop} (h : RwB x) (hP : P (.str (shwP (.tup [rowP x, rowP x]))) μ) : pRepr [.tup [rowP x, rowP x]] μ P := by
  refine pRepr_tup (shb_tup (d := 2) (l := 10000) fun y hy => ?_) (by decide) (show 2 * (10000 + 2) + 3 ≤ lim by decide) hP
  simp only [List.mem_cons, List.not_mem_nil, or_false, or_self] at hy
  subst hy
  exact shb_row h
theorem pReprA_row {x : RwX} {μ : Store} {P : PV → Store → Prop} (h : RwB x) (hP : P (.str (shwP (rowP x))) μ) : pReprA [rowP x] μ P := by
  cases x with
  | none => exact hP
  | some p => exact pRepr_tup (shb_row h) (by decide) (by decide) hP
theorem rwB_of {W m r : Nat} {ns bs : List Nat} (hn : ∀ n ∈ ns, 2 ≤ n ∧ n ≤ 64 ∧ n ≤ W) (hl : ns.length ≤ 12) (hW : W ≤ 2 ^ 20) (hb : ∀ b ∈ bs, b < 2) (hbl : bs.length ≤ 1000) (hr : r < m) (hm : m < 2 * W) : RwB (rww W ns bs m r) := fun p hp => by
  obtain ⟨a1, a2, a3, a4, a5⟩ := rww_ok hn hb hr hm hp
  have e2 : (2 : Nat) ^ 20 < 2 ^ 99 := by decide
  have e3 : (2 : Nat) ^ 99 * 2 = 2 ^ 100 := by decide
  have e4 : 1000 < 2 ^ 99 := by decide
  exact ⟨fun o ho => by have := a5 o ho; omega, by omega, by omega, by omega, by omega⟩
theorem noRef_row (x : RwX) : noRef (rowP x) = true := by
  cases x with
  | none => rfl
  | some x =>
    show noRefs [lotP x.1, restP x.2.1 x.2.2.1, .int (x.2.2.2 : Nat)] = true
    simp only [noRefs, noRef_lot, Bool.true_and]
    rfl
theorem fdX_map {α β γ : Type} [DecidableEq α] (g : β → γ) (k : α) : ∀ l : List (α × β), fdX (l.map fun e => (e.1, g e.2)) k = (fdX l k).map g
  | [] => rfl
  | e :: l => by
    have ih := fdX_map g k l
    unfold fdX at *
    rw [List.map_cons, List.find?_cons, List.find?_cons]
    by_cases c : e.1 = k
    · simp [c]
    · simp [c] at ih ⊢
      exact ih
theorem ptX_map {α β γ : Type} [DecidableEq α] (g : β → γ) (k : α) (v : β) (l : List (α × β)) : ptX (l.map fun e => (e.1, g e.2)) k (g v) = (ptX l k v).map fun e => (e.1, g e.2) := by
  unfold ptX
  rw [fdX_map, Option.isSome_map]
  split
  · rw [List.map_map, List.map_map]
    refine List.map_congr_left fun e _ => ?_
    simp only [Function.comp]
    split <;> rfl
  · rw [List.map_append]; rfl
theorem valT_fdX (l : List (List Int × PV)) (k : List Int) : valT l k = fdX l k := rfl
theorem putT_ptX (l : List (List Int × PV)) (k : List Int) (v : PV) : putT l k v = ptX l k v := rfl
theorem valNT_fdX (l : List (KN × PV)) (k : KN) : valNT l k = fdX l k := rfl
theorem putNT_ptX (l : List (KN × PV)) (k : KN) (v : PV) : putNT l k v = ptX l k v := rfl
def encC (b : Nat) : CX → MO
  | .rows l => .lst (l.map lotP)
  | .lots l => .tk (l.map fun e => (e.1, PV.mr (b + e.2)))
  | .lot l => .nk (l.map fun e => (e.1, PV.int e.2))
def stX (μ : Store) (cs : List CX) : Store := μ ++ cs.map (encC μ.length)
theorem stX_get (μ : Store) (cs : List CX) (j : Nat) : (stX μ cs)[μ.length + j]? = (cs[j]?).map (encC μ.length) := by
  unfold stX
  rw [List.getElem?_append_right (Nat.le_add_right _ _), Nat.add_sub_cancel_left, List.getElem?_map]
theorem stX_set (μ : Store) (cs : List CX) (j : Nat) (c : CX) : (stX μ cs).set (μ.length + j) (encC μ.length c) = stX μ (cs.set j c) := by
  unfold stX
  rw [List.set_append_right _ _ (Nat.le_add_right _ _), Nat.add_sub_cancel_left, List.map_set]
theorem stX_app (μ : Store) (cs : List CX) (c : CX) : stX μ cs ++ [encC μ.length c] = stX μ (cs ++ [c]) := by
  unfold stX
  rw [List.map_append, List.append_assoc]; rfl
theorem stX_len (μ : Store) (cs : List CX) : (stX μ cs).length = μ.length + cs.length := by
  unfold stX
  rw [List.length_append, List.length_map]
theorem tdP_stX {μ : Store} {cs : List CX} {L : List (List Int × Nat)} (h : cs[0]? = some (.lots L)) : tdP (.mr μ.length) (stX μ cs) = some (L.map fun e => (e.1, PV.mr (μ.length + e.2))) := by
  have := stX_get μ cs 0
  rw [Nat.add_zero, h] at this
  unfold tdP
  simp only
  rw [this]
  rfl
theorem tnP_stX {μ : Store} {cs : List CX} {j : Nat} {kv : List (KN × Int)} (h : cs[j]? = some (.lot kv)) : tnP (.mr (μ.length + j)) (stX μ cs) = some (kv.map fun e => (e.1, PV.int e.2)) := by
  have := stX_get μ cs j
  rw [h] at this
  unfold tnP
  simp only
  rw [this]
  rfl
theorem nkP_lot (l : List Nat) (r : Nat) : nkP (.tup [lotP l, .int (r : Nat)]) = some (l.map fun (i : Nat) => (i : Int), ((r : Nat) : Int)) := by
  unfold nkP lotP
  simp only
  rw [show (l.map fun (n : Nat) => PV.int n) = (l.map fun (i : Nat) => (i : Int)).map PV.int by rw [List.map_map]; rfl, intsP_map]
  rfl
theorem tkP_two (a b : Nat) : tkP (.tup [.int (a : Nat), .int (b : Nat)]) = some [(a : Int), (b : Int)] := rfl
theorem map_getD {α β : Type} (g : α → β) (o : Option α) (d : α) : (o.map g).getD (g d) = g (o.getD d) := by cases o <;> rfl
theorem stX_two {μ : Store} {cs : List CX} {L : List (List Int × Nat)} {kv : List (KN × Int)} {j : Nat} (hL : cs[0]? = some (.lots L)) (hk : cs[j]? = some (.lot kv)) (c : CX) : (cs.set j c)[0]? = some (.lots L) := by
  rw [List.getElem?_set_ne, hL]
  rintro rfl
  rw [hL] at hk
  cases hk
theorem tk2_ok {L : List (List Int × PV)} (h : ∀ e ∈ L, ∃ t m : Int, e.1 = [t, m]) : PySem.W.AllAlike (L.map fun kv => tkD kv.1) ∧ PySem.W.Sortable (L.map fun kv => tkD kv.1) ∧ ∀ kv ∈ L, (tkD kv.1).depth ≤ 60 := by
  refine ⟨fun d hd e he => ?_, .inl fun d hd => ?_, fun e he => ?_⟩
  · obtain ⟨a, ha, rfl⟩ := List.mem_map.mp hd
    obtain ⟨b, hb, rfl⟩ := List.mem_map.mp he
    obtain ⟨t, m, h1⟩ := h a ha
    obtain ⟨t', m', h2⟩ := h b hb
    rw [h1, h2]
    simp [tkD, PySem.W.alike, PySem.W.alikeAll]
  · obtain ⟨a, ha, rfl⟩ := List.mem_map.mp hd
    obtain ⟨t, m, h1⟩ := h a ha
    rw [h1]
    exact ⟨_, _, rfl⟩
  · obtain ⟨t, m, h1⟩ := h e he
    rw [h1]
    simp [tkD, PyData.depth, PyData.depthAll]
theorem valT_stX {μ : Store} {L : List (List Int × Nat)} {k : List Int} {j : Nat} (h : fdX L k = some j) : valT (L.map fun e => (e.1, PV.mr (μ.length + e.2))) k = some (.mr (μ.length + j)) := by
  rw [valT_fdX, fdX_map (fun (i : Nat) => PV.mr (μ.length + i)), h]; rfl
theorem nats_anyQ {m : Int} {rest μ : Store} {g : MG} {e : ME} {ρ0 : PEnv} {P : List PV → Store → Prop} {k : Nat} {p : Nat → Prop} (hD : Dk m rest μ)
    (hs : ∀ (a : Nat) (μ' : Store), Dk m rest μ' → ∀ N : PV → Store → Prop, (∀ (n : Nat) (μ2 : Store), p n → Dk m rest μ2 → N (.int (n : Nat)) μ2) → g (.int (a : Nat)) ρ0 μ' fun ρ1 μ1 => e ρ1 μ1 N)
    (hP : ∀ (bs : List Nat) (μ' : Store), (∀ b ∈ bs, p b) → bs.length = k → Dk m rest μ' → P (bs.map fun (n : Nat) => PV.int n) μ') : mLcL g mYes e ρ0 P ((List.range k).map fun (i : Nat) => PV.int i) [] μ := by
  refine lc_any (fun pre acc μ' => Dk m rest μ' ∧ ∃ ns : List Nat, acc = (ns.map fun (i : Nat) => PV.int i) ∧ ns.length = pre.length ∧ ∀ i ∈ ns, p i) (done := []) ⟨hD, [], rfl, rfl, by simp⟩ (fun pre a post acc μ' he hI N hN => ?_) fun acc μ' hI => ?_
  · obtain ⟨hD', ns, rfl, hp, hlt⟩ := hI
    refine hs a μ' hD' _ fun n μ2 h0 hD2 => ?_
    refine hN _ _ ⟨hD2, ns ++ [n], by rw [List.map_append]; rfl, by rw [List.length_append, List.length_append, hp]; rfl, fun i hi => ?_⟩
    rcases List.mem_append.mp hi with hi | hi
    · exact hlt i hi
    · rw [List.mem_singleton.mp hi]; exact h0
  · obtain ⟨hD', ns, rfl, hp, hlt⟩ := hI
    exact hP ns μ' hlt (by simpa using hp) hD'
theorem lot_snoc' (l : List Nat) (a : Nat) : PV.tup ((l.map fun (n : Nat) => PV.int n) ++ [PV.int (a : Nat)]) = lotP (l ++ [a]) := by rw [lotP, List.map_append]; rfl
def tuD (b : List Nat) : PyData := .tuple ((zs b).map PyData.int)
theorem datP_tuD (b : List Nat) : datP (lotP b) = some (tuD b) := by
  rw [lot_ints, datP, datPs_ints]; rfl
theorem datPs_rows : ∀ l : List (List Nat), datPs (l.map lotP) = some (l.map tuD)
  | [] => rfl
  | b :: l => by rw [List.map_cons, datPs, datP_tuD, datPs_rows l]; rfl
theorem canLay_rows : ∀ l : List (List Nat), PyData.canLayAll0 (l.map tuD) = true
  | [] => rfl
  | b :: l => by
    rw [List.map_cons, PyData.canLayAll0, canLay_rows l]
    simp [tuD, PyData.canLay0, canLay_ints]
theorem depth_rows : ∀ l : List (List Nat), PyData.depthAll (l.map tuD) ≤ 2
  | [] => by simp [PyData.depthAll]
  | b :: l => by
    have h1 := depth_rows l
    have h2 := depth_ints (zs b)
    simp only [List.map_cons, PyData.depthAll, tuD, PyData.depth]
    omega
theorem eqP_rows {n : Nat} {μ : Store} {l : List (List Nat)} (h : μ[n]? = some (.lst (l.map lotP))) : eqP (.mr n) (.lst []) μ = some (decide (l = [])) := by
  have h1 : SeqAt.shaped (.list (l.map tuD)) = true := by
    have := depth_rows l
    simp [SeqAt.shaped, PyData.canLay0, canLay_rows, PyData.depth]
    omega
  have h2 := shaped_ints []
  simp only [List.map_nil] at h2
  unfold eqP
  simp only [scalP, frzP, h, datP, datPs_rows, datPs, Option.map_some, h1, h2, and_self, if_true]
  congr 1
  cases l <;> simp [PyData.eqv, PyData.eqvAll]
end Fx
namespace Fx
open PySem PySem.Spec PyProof.Rows L2 RZ MR
abbrev S_is_integer : PSp := fun xs μ Q => xs.length = 1 ∧ ∃ i, xs = [.int i] ∧ Q (.bl true) μ
abbrev S_is_within : PSp := fun xs μ Q => xs.length = 3 ∧ ∃ (i lo hi : Int), xs = [.int i, .int lo, .int hi] ∧ Q (.bl (decide (lo ≤ i) && decide (i ≤ hi))) μ
abbrev S_are_integers : PSp := fun xs μ Q => xs.length = 3 ∧ ∃ (vs : List Int) (lo hi : Int), xs = [.tup (vs.map PV.int), .int lo, .int hi] ∧ vs.length ≤ lim ∧ Q (.bl (vs.all fun i => decide (lo ≤ i) && decide (i ≤ hi))) μ
abbrev S__law_draw : PSp := fun xs μ Q => xs.length = 2 ∧ ∃ (many m : Int) (rest : Store), xs = [.mr 1, .int many] ∧ Dk m rest μ ∧ 0 < many ∧ many < 2 ^ 60 ∧
  ∀ (n : Int) (μ' : Store), 0 ≤ n → n < many → Dk m rest μ' → Q (.int n) μ' 
abbrev S__law_pick : PSp := fun xs μ Q => xs.length = 2 ∧ ∃ (x : PV) (items : List PV) (m : Int) (rest : Store), xs = [.mr 1, x] ∧ (seqP x = some items ∨ ∃ j, x = .mr (j + 2) ∧ rest[j]? = some (.lst items)) ∧ Dk m rest μ ∧ 0 < items.length ∧ items.length ≤ 1000 ∧
  ∀ v ∈ items, ∀ μ', Dk m rest μ' → Q v μ' 
abbrev S__law_deck : PSp := fun xs μ Q => xs.length = 1 ∧ ∃ (ns : List Int), xs = [.kl (ns.map PV.int)] ∧ μ = [] ∧
  ∀ (m : Int) (μ' : Store), Dk m [] μ' → Q (.mr 1) μ' 
abbrev S_law : PSp := fun xs μ Q => xs.length = 1 ∧ ∃ ns : List Int, xs = [.kl (ns.map PV.int)] ∧ μ = [] ∧ ∀ μ', Q (.bl true) μ' 
abbrev S_are_bits : PSp := fun xs μ Q => xs.length = 1 ∧ ∃ (bs : List Nat), xs = [lotP bs] ∧ bs.length ≤ 200000 ∧ Q (.bl (bs.all (· < 2))) μ
abbrev S__law_bits : PSp := fun xs μ Q => xs.length = 2 ∧ ∃ (n : Nat) (m : Int) (rest : Store), xs = [.mr 1, .int (n : Nat)] ∧ Dk m rest μ ∧ n ≤ 1000 ∧ ∀ (bs : List Nat) (μ' : Store), (∀ b ∈ bs, b < 2) → bs.length = n → Dk m rest μ' → Q (lotP bs) μ' 
abbrev S__law_width : PSp := fun xs μ Q => xs.length = 2 ∧ ∃ (most m : Int) (rest : Store), xs = [.mr 1, .int most] ∧ Dk m rest μ ∧ 0 < most ∧ most ≤ 12 ∧ ∀ (w : Nat) (μ' : Store), 1 ≤ w → (w : Int) ≤ most → Dk m rest μ' → Q (.int (w : Nat)) μ' 
abbrev S__law_want : PSp := fun xs μ Q => xs.length = 2 ∧ ∃ (w : Nat) (m : Int) (rest : Store), xs = [.mr 1, .int (w : Nat)] ∧ Dk m rest μ ∧ 1 ≤ w ∧ w ≤ 12 ∧ ∀ (n : Nat) (μ' : Store), 2 ≤ n → n ≤ 64 → n ≤ 2 ^ w → Dk m rest μ' → Q (.int (n : Nat)) μ' 
abbrev S_is_want : PSp := fun xs μ Q => xs.length = 2 ∧ ∃ (w n : Nat), xs = [.int (n : Nat), .int (w : Nat)] ∧ w ≤ 12 ∧ 2 ≤ n ∧ n ≤ 64 ∧ n ≤ 2 ^ w ∧ Q (.bl true) μ
abbrev S_check_width : PSp := fun xs μ Q => xs.length = 1 ∧ ∃ (w : Nat), xs = [.int (w : Nat)] ∧ 1 ≤ w ∧ w ≤ 12 ∧ Q .non μ
abbrev S_check_want : PSp := fun xs μ Q => xs.length = 2 ∧ ∃ (w n : Nat), xs = [.int (w : Nat), .int (n : Nat)] ∧ 1 ≤ w ∧ w ≤ 12 ∧ 2 ≤ n ∧ n ≤ 64 ∧ n ≤ 2 ^ w ∧ Q .non μ
abbrev S_check_bits : PSp := fun xs μ Q => xs.length = 1 ∧ ∃ (bs : List Nat), xs = [lotP bs] ∧ (∀ b ∈ bs, b < 2) ∧ bs.length ≤ 1000 ∧ Q .non μ
abbrev S_is_rest : PSp := fun xs μ Q => xs.length = 2 ∧ ∃ (w m r : Nat), xs = [restP m r, .int (w : Nat)] ∧ w ≤ 12 ∧ r < m ∧ m < 2 * 2 ^ w ∧ Q (.bl true) μ
abbrev S_drawn_behind : PSp := fun xs μ Q => xs.length = 5 ∧ ∃ (w m r n : Nat) (bs : List Nat) (t : Nat), xs = [.int (w : Nat), restP m r, .int (n : Nat), lotP bs, .int (t : Nat)] ∧ 1 ≤ w ∧ w ≤ 12 ∧ 2 ≤ n ∧ n ≤ 64 ∧ n ≤ 2 ^ w ∧ (∀ b ∈ bs, b < 2) ∧ bs.length ≤ 1000 ∧ r < m ∧ m < 2 * 2 ^ w ∧ t ≤ bs.length ∧ Q (wntP (wntT (2 ^ w) n bs t m r)) μ
abbrev S_wanted : PSp := fun xs μ Q => xs.length = 4 ∧ ∃ (w m r n : Nat) (bs : List Nat), xs = [.int (w : Nat), restP m r, .int (n : Nat), lotP bs] ∧ 1 ≤ w ∧ w ≤ 12 ∧ 2 ≤ n ∧ n ≤ 64 ∧ n ≤ 2 ^ w ∧ (∀ b ∈ bs, b < 2) ∧ bs.length ≤ 1000 ∧ r < m ∧ m < 2 * 2 ^ w ∧ Q (wntP (wnt (2 ^ w) n bs m r)) μ
abbrev S__law_wanted : PSp := fun xs μ Q => xs.length = 4 ∧ ∃ (w m r n : Nat) (bs : List Nat), xs = [.int (w : Nat), restP m r, .int (n : Nat), lotP bs] ∧ 1 ≤ w ∧ w ≤ 12 ∧ 2 ≤ n ∧ n ≤ 64 ∧ n ≤ 2 ^ w ∧ (∀ b ∈ bs, b < 2) ∧ bs.length ≤ 1000 ∧ r < m ∧ m < 2 * 2 ^ w ∧ Q (wntP (wnt (2 ^ w) n bs m r)) μ
abbrev S_check_wants : PSp := fun xs μ Q => xs.length = 2 ∧ ∃ (w : Nat) (ns : List Nat), xs = [.int (w : Nat), lotP ns] ∧ 1 ≤ w ∧ w ≤ 12 ∧ (∀ n ∈ ns, 2 ≤ n ∧ n ≤ 64 ∧ n ≤ 2 ^ w) ∧ ns.length ≤ 12 ∧ Q .non μ
abbrev S_row_wanted : PSp := fun xs μ Q => xs.length = 3 ∧ ∃ (w : Nat) (ns bs : List Nat), xs = [.int (w : Nat), lotP ns, lotP bs] ∧ 1 ≤ w ∧ w ≤ 12 ∧ (∀ n ∈ ns, 2 ≤ n ∧ n ≤ 64 ∧ n ≤ 2 ^ w) ∧ ns.length ≤ 12 ∧ (∀ b ∈ bs, b < 2) ∧ bs.length ≤ 1000 ∧ Q (rowP (rww (2 ^ w) ns bs 1 0)) μ
abbrev S__law_row_wanted : PSp := fun xs μ Q => xs.length = 3 ∧ ∃ (w : Nat) (ns bs : List Nat), xs = [.int (w : Nat), lotP ns, lotP bs] ∧ 1 ≤ w ∧ w ≤ 12 ∧ (∀ n ∈ ns, 2 ≤ n ∧ n ≤ 64 ∧ n ≤ 2 ^ w) ∧ ns.length ≤ 12 ∧ (∀ b ∈ bs, b < 2) ∧ bs.length ≤ 1000 ∧ Q (rowP (rww (2 ^ w) ns bs 1 0)) μ
abbrev S__law_one_by_one : PSp := fun xs μ Q => xs.length = 3 ∧ ∃ (w : Nat) (ns bs : List Nat), xs = [.int (w : Nat), lotP ns, lotP bs] ∧ 1 ≤ w ∧ w ≤ 12 ∧ (∀ n ∈ ns, 2 ≤ n ∧ n ≤ 64 ∧ n ≤ 2 ^ w) ∧ ns.length ≤ 12 ∧ (∀ b ∈ bs, b < 2) ∧ bs.length ≤ 1000 ∧ Q (rowP (rww (2 ^ w) ns bs 1 0)) μ
abbrev S__law_are_even : PSp := fun xs μ Q => xs.length = 3 ∧ ∃ (w : Nat) (ns : List Nat), xs = [.int (w : Nat), lotP ns, .int 7] ∧ 1 ≤ w ∧ w ≤ 12 ∧ (∀ n ∈ ns, 2 ≤ n ∧ n ≤ 64 ∧ n ≤ 2 ^ w) ∧ ns.length ≤ 12 ∧ evenX (2 ^ w) ns = true ∧ Q (.bl true) μ
end Fx
namespace K43
open PySem PySem.Spec PyProof.Rows L2 RZ Fx MR

def topS (i : Nat) : Stmt := PySem.Challenge.pw_drawnbits_k43_whole_rows_of_wants.main.body.getD i (.Pass ⟨0, 0, 0, 0⟩)
abbrev s_is_integer : Stmt := topS 6
abbrev s_is_within : Stmt := topS 7
abbrev s_are_integers : Stmt := topS 8
abbrev s_are_bits : Stmt := topS 10
abbrev s_check_bits : Stmt := topS 11
abbrev s_is_want : Stmt := topS 15
abbrev s_check_width : Stmt := topS 16
abbrev s_check_want : Stmt := topS 17
abbrev s_check_wants : Stmt := topS 18
abbrev s_is_rest : Stmt := topS 19
abbrev s_wanted : Stmt := topS 20
abbrev s_drawn_behind : Stmt := topS 21
abbrev s_row_wanted : Stmt := topS 22
abbrev s__law_deck : Stmt := topS 24
abbrev s__law_draw : Stmt := topS 25
abbrev s__law_pick : Stmt := topS 26
abbrev s__law_bits : Stmt := topS 27
abbrev s__law_wanted : Stmt := topS 28
abbrev s__law_row_wanted : Stmt := topS 29
abbrev s__law_width : Stmt := topS 30
abbrev s__law_want : Stmt := topS 31
abbrev s__law_one_by_one : Stmt := topS 32
abbrev s__law_are_even : Stmt := topS 33
abbrev s_law : Stmt := topS 34
section
variable {P : Program} {w : World} {K : PySem.W.Frag} {mg : Str → Option Value} {base : Heap}
abbrev N__law_deck : List Str := ["_law_script", "_law_mixed", "_law_cell"]
theorem sc__law_deck : FnScope N__law_deck ["_law_script"] (defScope s__law_deck) := ⟨rfl, rfl, rfl, by decide +kernel, rfl, by decide +kernel, by decide +kernel⟩
theorem ok__law_deck (B : Blt mg) (h__law_deck : Own K mg "_law_deck" s__law_deck) : Ok P w K mg base 1 "_law_deck" s__law_deck ["_law_script"] S__law_deck := by
  obtain ⟨f_s, fd_s, F_s, g_s⟩ := h__law_deck
  refine ⟨f_s, fd_s, F_s, g_s, F_s.binds (fun _ _ _ _ _ _ us hl => match us, hl with | [_], _ => rfl), FnG.of F_s sc__law_deck (fun xs μ Q h => by first | exact h.1 | exact h.2.1 | (obtain ⟨⟩ := h)) fun cdv A outer s H hr hgd => ⟨_, _, (pss_cons (ps_set (i := 1) sc__law_deck.nd rfl (Or.inl rfl) pe_int)
 (pss_cons (ps_for PassesOwn.never rfl (pi_seq (pe_slice sl_any (pv 0) po_none (po_some pe_int))) (pg_name (i := 2) sc__law_deck.nd rfl (Or.inl rfl))
 (pss_one (ps_set (i := 1) sc__law_deck.nd rfl (Or.inl rfl) (pe_op op_modX (pe_callTy cb_int1 (by rfl) (B "int" (by decide)) (by decide +kernel) (pa_cons (pe_op op_plus (pe_op op_plus (pe_op op_times (pv 1) pe_int) (pe_op op_modX (pe_callTy cb_int1 (by rfl) (B "int" (by decide)) (by decide +kernel) (pa_cons (pv 2) pa_nil)) pe_int)) pe_int) pa_nil)) pe_int))))
 (pss_one (ps_ret (pe_disp (pps_cons pe_str (peRM (pe_revL (pe_callTy cb_lst (by rfl) (B "list" (by decide)) (by decide +kernel) (pa_cons (pe_slice sl_any (pv 0) po_none (po_some pe_int)) pa_nil)))) (pps_cons pe_str (pv 1) (pps_cons pe_str pe_int pps_nil))) (by rfl) (by rfl) (fun z => by cases z) (by decide)))))), (by (try dsimp only [cxOf]); exact inferInstance), ?_⟩⟩
  intro xs μ Q hS
  obtain ⟨_, ns, rfl, rfl, hQ⟩ := hS
  rw [show startP N__law_deck [.kl (ns.map PV.int)] = [some (.kl (ns.map PV.int)), none, none] from rfl]
  have hc : cutP (ns.map PV.int) none (some 63) = (ns.take 63).map PV.int := by rw [List.map_take]; exact cut_to _ 63
  simp only [mLockEN, mDNewN, mDGet2N, mDPutN, mValsN, pLenN, pSortTX, mDNewT, mZipM, mDc, mLenSetL, mDGetT, mDGet2T, mDInT, mDPutT, mLockX, mLockEX, mKeysX, pLstX, pLenX, pMaxT, pSortT, str_to, str_ot, mPar3, mLockV, mLockE, mItemsC, mKeysC, mDGet2, pIsN, isNonP, pRepLM, mTruD, dkOfP, pPopAt, pIndex, mLstRgM, mTruth, pReprA, pLenD, pLstD, mDNew, pRepL, mLenSetN, mDIn, mSortSet, mSortSetL, mRevT, mForC, mSeqC, mLcC, pAbs, pMax2, pMin2, pInt1, mDGet, mDPut, mBM, mBM0, pPop, pAppend, pExtend, pSetL, mSub, mDisp, mPs, mPs0, mRevL, mRevLM, pLstOfM, mTupRg, mRg1, mRg2, pPlusM, lstItems, dictOfP, keyP, keysP, val_left, val_mixed, val_draws, put_draws, mLc, mLcM, mLc2, mFor, mSeqI, mRng1, mRng2, mZip, mEnum, mSl, mNoPart, mPart, mSeq, mAsg, mAsg2, mCB, mCons, mNil, mVar, mC, mOp, mUn, pU, mTup, mLst, mRet, mRetN, mLstM, getl, setl, mName, mCall, mCallK, mIf, mIfS, mTest, mAnd, mOr, mNot, mYes, mAndV, mOrV, mNotV, mNext, mNever, mBreak, mCont, mDrop, mChain, mPar, mGTup, mGCons, mGNil, pGcd, pI, pI0, pIx, pTimes, pPlus, pEq, pNe, pLen, pSum, pMaxS, pAll, pAny, pTupOf, pLstOf, pIn, pIsB, pIsi, items_tup, items_lst, items_kl, items_mr, items_tab, items_lot, items_fr, decide_true, decide_false, eqP_int, eqP_bl, eqP_str, eqP_tup2, kit_tt, kit_ii, kit_ib, tyP, mEnd, wipeP, List.map_cons, List.map_nil, List.getElem?_cons_zero, List.getElem?_cons_succ, List.set_cons_zero, List.set_cons_succ, atI_zero, atI_one, if_true, if_false, ite_true, ite_false, Bool.false_eq_true, List.length_cons, List.length_nil, Bool.not_true, Bool.not_false, hc]
  refine for_inv (enc := PV.int) (fun pre ρ μ' => (∃ m y, ρ = [some (.kl (ns.map PV.int)), some (.int m), y]) ∧ μ' = []) (done := []) ⟨⟨_, _, rfl⟩, rfl⟩ (fun pre a post ρ μ' e hI N hN => ?_) fun ρ μ' hI => ?_
  · obtain ⟨⟨m, y, rfl⟩, rfl⟩ := hI
    simp only [mLockEN, mDNewN, mDGet2N, mDPutN, mValsN, pLenN, pSortTX, mDNewT, mZipM, mDc, mLenSetL, mDGetT, mDGet2T, mDInT, mDPutT, mLockX, mLockEX, mKeysX, pLstX, pLenX, pMaxT, pSortT, str_to, str_ot, mPar3, mLockV, mLockE, mItemsC, mKeysC, mDGet2, pIsN, isNonP, pRepLM, mTruD, dkOfP, pPopAt, pIndex, mLstRgM, mTruth, pReprA, pLenD, pLstD, mDNew, pRepL, mLenSetN, mDIn, mSortSet, mSortSetL, mRevT, mForC, mSeqC, mLcC, pAbs, pMax2, pMin2, pInt1, mDGet, mDPut, mBM, mBM0, pPop, pAppend, pExtend, pSetL, mSub, mDisp, mPs, mPs0, mRevL, mRevLM, pLstOfM, mTupRg, mRg1, mRg2, pPlusM, lstItems, dictOfP, keyP, keysP, val_left, val_mixed, val_draws, put_draws, mLc, mLcM, mLc2, mFor, mSeqI, mRng1, mRng2, mZip, mEnum, mSl, mNoPart, mPart, mSeq, mAsg, mAsg2, mCB, mCons, mNil, mVar, mC, mOp, mUn, pU, mTup, mLst, mRet, mRetN, mLstM, getl, setl, mName, mCall, mCallK, mIf, mIfS, mTest, mAnd, mOr, mNot, mYes, mAndV, mOrV, mNotV, mNext, mNever, mBreak, mCont, mDrop, mChain, mPar, mGTup, mGCons, mGNil, pGcd, pI, pI0, pIx, pTimes, pPlus, pEq, pNe, pLen, pSum, pMaxS, pAll, pAny, pTupOf, pLstOf, pIn, pIsB, pIsi, items_tup, items_lst, items_kl, items_mr, items_tab, items_lot, items_fr, decide_true, decide_false, eqP_int, eqP_bl, eqP_str, eqP_tup2, kit_tt, kit_ii, kit_ib, tyP, mEnd, wipeP, List.map_cons, List.map_nil, List.getElem?_cons_zero, List.getElem?_cons_succ, List.set_cons_zero, List.set_cons_succ, atI_zero, atI_one, if_true, if_false, ite_true, ite_false, Bool.false_eq_true, List.length_cons, List.length_nil, Bool.not_true, Bool.not_false]
    exact ⟨mulR (by decide) (by decide), by decide, by decide, hN _ _ ⟨⟨_, _, rfl⟩, rfl⟩⟩
  · obtain ⟨⟨m, y, rfl⟩, rfl⟩ := hI
    simp only [mLockEN, mDNewN, mDGet2N, mDPutN, mValsN, pLenN, pSortTX, mDNewT, mZipM, mDc, mLenSetL, mDGetT, mDGet2T, mDInT, mDPutT, mLockX, mLockEX, mKeysX, pLstX, pLenX, pMaxT, pSortT, str_to, str_ot, mPar3, mLockV, mLockE, mItemsC, mKeysC, mDGet2, pIsN, isNonP, pRepLM, mTruD, dkOfP, pPopAt, pIndex, mLstRgM, mTruth, pReprA, pLenD, pLstD, mDNew, pRepL, mLenSetN, mDIn, mSortSet, mSortSetL, mRevT, mForC, mSeqC, mLcC, pAbs, pMax2, pMin2, pInt1, mDGet, mDPut, mBM, mBM0, pPop, pAppend, pExtend, pSetL, mSub, mDisp, mPs, mPs0, mRevL, mRevLM, pLstOfM, mTupRg, mRg1, mRg2, pPlusM, lstItems, dictOfP, keyP, keysP, val_left, val_mixed, val_draws, put_draws, mLc, mLcM, mLc2, mFor, mSeqI, mRng1, mRng2, mZip, mEnum, mSl, mNoPart, mPart, mSeq, mAsg, mAsg2, mCB, mCons, mNil, mVar, mC, mOp, mUn, pU, mTup, mLst, mRet, mRetN, mLstM, getl, setl, mName, mCall, mCallK, mIf, mIfS, mTest, mAnd, mOr, mNot, mYes, mAndV, mOrV, mNotV, mNext, mNever, mBreak, mCont, mDrop, mChain, mPar, mGTup, mGCons, mGNil, pGcd, pI, pI0, pIx, pTimes, pPlus, pEq, pNe, pLen, pSum, pMaxS, pAll, pAny, pTupOf, pLstOf, pIn, pIsB, pIsi, items_tup, items_lst, items_kl, items_mr, items_tab, items_lot, items_fr, decide_true, decide_false, eqP_int, eqP_bl, eqP_str, eqP_tup2, kit_tt, kit_ii, kit_ib, tyP, mEnd, wipeP, List.map_cons, List.map_nil, List.getElem?_cons_zero, List.getElem?_cons_succ, List.set_cons_zero, List.set_cons_succ, atI_zero, atI_one, if_true, if_false, ite_true, ite_false, Bool.false_eq_true, List.length_cons, List.length_nil, Bool.not_true, Bool.not_false, hc]
    refine ⟨by decide, fin_keep ?_⟩
    have h := hQ m (DS (ns.take 63).reverse m 0 []) ⟨_, _, by simp; omega, rfl⟩
    have e : DS (ns.take 63).reverse m 0 [] = [MO.lst ((ns.take 63).map PV.int).reverse] ++ [MO.dk (List.foldl (fun acc kv => putP acc kv.1 kv.2) [] [(.inr (Str.ofString "cells"), PV.mr 0), (.inr (Str.ofString "mixed"), PV.int m), (.inr (Str.ofString "draws"), PV.int 0)])] := by
      unfold DS
      rw [List.map_reverse]
      rfl
    rw [e] at h
    exact h
abbrev N__law_draw : List Str := ["_law_deck_here", "_law_many", "_law_number", "_law_cell"]
theorem sc__law_draw : FnScope N__law_draw ["_law_deck_here", "_law_many"] (defScope s__law_draw) := ⟨rfl, rfl, rfl, by decide +kernel, rfl, by decide +kernel, by decide +kernel⟩
theorem ok__law_draw (B : Blt mg) (h__law_draw : Own K mg "_law_draw" s__law_draw) : Ok P w K mg base 1 "_law_draw" s__law_draw ["_law_deck_here", "_law_many"] S__law_draw := by
  obtain ⟨f_s, fd_s, F_s, g_s⟩ := h__law_draw
  refine ⟨f_s, fd_s, F_s, g_s, F_s.binds (fun _ _ _ _ _ _ us hl => match us, hl with | [_, _], _ => rfl), FnG.of F_s sc__law_draw (fun xs μ Q h => by first | exact h.1 | exact h.2.1 | (obtain ⟨⟩ := h)) fun cdv A outer s H hr hgd => ⟨_, _, (pss_cons (ps_dput (hu_of hr) (pv 0) pe_str (pe_op op_plus (pe_dget (hu_of hr) (pv 0) pe_str (fun _ _ => rfl)) pe_int) (by rfl))
 (pss_cons (ps_set (i := 2) sc__law_draw.nd rfl (Or.inl rfl) (pe_op op_plus (pe_dget (hu_of hr) (pv 0) pe_str (fun _ _ => rfl)) (pe_op op_times pe_int (pe_dget (hu_of hr) (pv 0) pe_str (fun _ _ => rfl)))))
 (pss_cons (ps_if (pt_cmpR (op_neX hr.units) (pe_dget (hu_of hr) (pv 0) pe_str (fun _ _ => rfl)) (pe_lst pa_nil) (nomark _))
 (pss_cons (ps_set (i := 3) sc__law_draw.nd rfl (Or.inl rfl) (pe_bm0 PySem.F.plainAttrs_list PySem.F.slot_list_pop PySem.F.type_list_pop mt_pop (pe_dget (hu_of hr) (pv 0) pe_str (fun _ _ => rfl))))
 (pss_cons (ps_if (pt_cmpR op_ge (pv 3) (pe_op op_pow pe_int pe_int) (nomark _))
 (pss_cons (ps_expr (pe_bm PySem.F.plainAttrs_list PySem.F.slot_list_append PySem.F.type_list_append mt_append (pe_dget (hu_of hr) (pv 0) pe_str (fun _ _ => rfl)) (pa_cons (pe_op op_divX (pv 3) (pe_callB (cb_max2 rfl) (by rfl) (B "max" (by decide)) (by decide +kernel) (pa_cons pe_int (pa_cons (pv 1) pa_nil)))) pa_nil)))
 (pss_one (ps_ret (pe_op op_modX (pe_callTy cb_int1 (by rfl) (B "int" (by decide)) (by decide +kernel) (pa_cons (pv 3) pa_nil)) (pv 1)))))
 pss_nil)
 (pss_one (ps_set (i := 2) sc__law_draw.nd rfl (Or.inl rfl) (pe_op op_plus (pv 2) (pe_op op_modX (pe_callTy cb_int1 (by rfl) (B "int" (by decide)) (by decide +kernel) (pa_cons (pv 3) pa_nil)) pe_int))))))
 pss_nil)
 (pss_cons (ps_set (i := 2) sc__law_draw.nd rfl (Or.inl rfl) (pe_op op_modX (pe_callTy cb_int1 (by rfl) (B "int" (by decide)) (by decide +kernel) (pa_cons (pe_op op_plus (pe_op op_times (pv 2) pe_int) pe_int) pa_nil)) pe_int))
 (pss_cons (ps_set (i := 2) sc__law_draw.nd rfl (Or.inl rfl) (pe_op op_modX (pe_callTy cb_int1 (by rfl) (B "int" (by decide)) (by decide +kernel) (pa_cons (pe_op op_plus (pe_op op_plus (pe_op op_times (pv 2) (pv 2)) (pe_op op_times pe_int (pe_dget (hu_of hr) (pv 0) pe_str (fun _ _ => rfl)))) pe_int) pa_nil)) pe_int))
 (pss_cons (ps_set (i := 2) sc__law_draw.nd rfl (Or.inl rfl) (pe_op op_modX (pe_callTy cb_int1 (by rfl) (B "int" (by decide)) (by decide +kernel) (pa_cons (pe_op op_times (pv 2) pe_int) pa_nil)) pe_int))
 (pss_one (ps_ret (pe_op op_modX (pe_callTy cb_int1 (by rfl) (B "int" (by decide)) (by decide +kernel) (pa_cons (pe_op op_divX (pv 2) pe_int) pa_nil)) (pv 1)))))))))), (by (try dsimp only [cxOf]); exact inferInstance), ?_⟩⟩
  intro xs μ Q hS
  obtain ⟨_, many, m, rest, rfl, ⟨L, k, hL, rfl⟩, hm, hm2, hQ⟩ := hS
  rw [show startP N__law_draw [.mr 1, .int many] = [some (.mr 1), some (.int many), none, none] from rfl]
  have fin : ∀ (x : Int) (L' : List Int) (k' : Int), L'.length ≤ 63 → ∃ y μ', Gc (DS L m k rest) (.int (x.fmod many)) (DS L' m k' rest) y μ' ∧ Q y μ' := fun x L' k' hl => fin_keep (hQ _ _ (fmod_b hm).1 (fmod_b hm).2 ⟨L', k', hl, rfl⟩)
  have m0 : many ≠ 0 := by omega
  have hq : ∀ (x : Int) {m : Int}, 0 < m → m ≤ 2147483647 → MulOk (x.fmod m) (x.fmod m) := fun x m hm0 hm1 => by
    have := fmod_b (x := x) (m := m) hm0
    exact mulR (by omega) (by omega)
  have d64 : ∀ x : Int, DivOk x 64 := fun x => .inl ⟨by decide, by decide⟩
  have DKl : ∀ a b c, (DK a b c).length ≤ lim := fun _ _ _ => by unfold lim DK; simp
  rcases List.eq_nil_or_concat L with rfl | ⟨I, c, rfl⟩
  · simp only [mLockEN, mDNewN, mDGet2N, mDPutN, mValsN, pLenN, pSortTX, mDNewT, mZipM, mDc, mLenSetL, mDGetT, mDGet2T, mDInT, mDPutT, mLockX, mLockEX, mKeysX, pLstX, pLenX, pMaxT, pSortT, str_to, str_ot, mPar3, mLockV, mLockE, mItemsC, mKeysC, mDGet2, pIsN, isNonP, pRepLM, mTruD, dkOfP, pPopAt, pIndex, mLstRgM, mTruth, pReprA, pLenD, pLstD, mDNew, pRepL, mLenSetN, mDIn, mSortSet, mSortSetL, mRevT, mForC, mSeqC, mLcC, pAbs, pMax2, pMin2, pInt1, mDGet, mDPut, mBM, mBM0, pPop, pAppend, pExtend, pSetL, mSub, mDisp, mPs, mPs0, mRevL, mRevLM, pLstOfM, mTupRg, mRg1, mRg2, pPlusM, lstItems, dictOfP, keyP, keysP, val_left, val_mixed, val_draws, put_draws, mLc, mLcM, mLc2, mFor, mSeqI, mRng1, mRng2, mZip, mEnum, mSl, mNoPart, mPart, mSeq, mAsg, mAsg2, mCB, mCons, mNil, mVar, mC, mOp, mUn, pU, mTup, mLst, mRet, mRetN, mLstM, getl, setl, mName, mCall, mCallK, mIf, mIfS, mTest, mAnd, mOr, mNot, mYes, mAndV, mOrV, mNotV, mNext, mNever, mBreak, mCont, mDrop, mChain, mPar, mGTup, mGCons, mGNil, pGcd, pI, pI0, pIx, pTimes, pPlus, pEq, pNe, pLen, pSum, pMaxS, pAll, pAny, pTupOf, pLstOf, pIn, pIsB, pIsi, items_tup, items_lst, items_kl, items_mr, items_tab, items_lot, items_fr, decide_true, decide_false, eqP_int, eqP_bl, eqP_str, eqP_tup2, kit_tt, kit_ii, kit_ib, tyP, mEnd, wipeP, List.map_cons, List.map_nil, List.getElem?_cons_zero, List.getElem?_cons_succ, List.set_cons_zero, List.set_cons_succ, atI_zero, atI_one, if_true, if_false, ite_true, ite_false, Bool.false_eq_true, List.length_cons, List.length_nil, Bool.not_true, Bool.not_false, DS, List.map_nil, eqP_nn]
    exact ⟨DKl _ _ _, mulL (by decide) (by decide), by decide, mulR (by decide) (by decide), by decide, hq _ (by decide) (by decide), mulL (by decide) (by decide), by decide, mulR (by decide) (by decide), by decide, d64 _, m0, fin _ [] _ hL⟩
  · have lI : I.length ≤ 62 := by simp at hL; omega
    by_cases hc : decide ((10 : Int) ^ (18 : Int).toNat ≤ c) = true
    · simp only [mLockEN, mDNewN, mDGet2N, mDPutN, mValsN, pLenN, pSortTX, mDNewT, mZipM, mDc, mLenSetL, mDGetT, mDGet2T, mDInT, mDPutT, mLockX, mLockEX, mKeysX, pLstX, pLenX, pMaxT, pSortT, str_to, str_ot, mPar3, mLockV, mLockE, mItemsC, mKeysC, mDGet2, pIsN, isNonP, pRepLM, mTruD, dkOfP, pPopAt, pIndex, mLstRgM, mTruth, pReprA, pLenD, pLstD, mDNew, pRepL, mLenSetN, mDIn, mSortSet, mSortSetL, mRevT, mForC, mSeqC, mLcC, pAbs, pMax2, pMin2, pInt1, mDGet, mDPut, mBM, mBM0, pPop, pAppend, pExtend, pSetL, mSub, mDisp, mPs, mPs0, mRevL, mRevLM, pLstOfM, mTupRg, mRg1, mRg2, pPlusM, lstItems, dictOfP, keyP, keysP, val_left, val_mixed, val_draws, put_draws, mLc, mLcM, mLc2, mFor, mSeqI, mRng1, mRng2, mZip, mEnum, mSl, mNoPart, mPart, mSeq, mAsg, mAsg2, mCB, mCons, mNil, mVar, mC, mOp, mUn, pU, mTup, mLst, mRet, mRetN, mLstM, getl, setl, mName, mCall, mCallK, mIf, mIfS, mTest, mAnd, mOr, mNot, mYes, mAndV, mOrV, mNotV, mNext, mNever, mBreak, mCont, mDrop, mChain, mPar, mGTup, mGCons, mGNil, pGcd, pI, pI0, pIx, pTimes, pPlus, pEq, pNe, pLen, pSum, pMaxS, pAll, pAny, pTupOf, pLstOf, pIn, pIsB, pIsi, items_tup, items_lst, items_kl, items_mr, items_tab, items_lot, items_fr, decide_true, decide_false, eqP_int, eqP_bl, eqP_str, eqP_tup2, kit_tt, kit_ii, kit_ib, tyP, mEnd, wipeP, List.map_cons, List.map_nil, List.getElem?_cons_zero, List.getElem?_cons_succ, List.set_cons_zero, List.set_cons_succ, atI_zero, atI_one, if_true, if_false, ite_true, ite_false, Bool.false_eq_true, List.length_cons, List.length_nil, Bool.not_true, Bool.not_false, DS, List.concat_eq_append, List.map_append, eqP_nc, last_c, List.dropLast_concat, hc]
      have h := fin c (I ++ [c.fdiv (if many > 2 then many else 2)]) (k + 1) (by simp; omega)
      simp only [DS, List.concat_eq_append, List.map_append, List.map_cons, List.map_nil] at h
      refine ⟨DKl _ _ _, mulL (by decide) (by decide), by decide, ⟨by decide, by decide, by decide⟩, .inl ⟨max2_pos many, ?_⟩, by rw [List.length_map]; unfold lim; omega, m0, h⟩
      have : (if many > 2 then many else 2).natAbs < 2 ^ 60 := by split <;> omega
      have := log_lt this
      omega
    · simp only [mLockEN, mDNewN, mDGet2N, mDPutN, mValsN, pLenN, pSortTX, mDNewT, mZipM, mDc, mLenSetL, mDGetT, mDGet2T, mDInT, mDPutT, mLockX, mLockEX, mKeysX, pLstX, pLenX, pMaxT, pSortT, str_to, str_ot, mPar3, mLockV, mLockE, mItemsC, mKeysC, mDGet2, pIsN, isNonP, pRepLM, mTruD, dkOfP, pPopAt, pIndex, mLstRgM, mTruth, pReprA, pLenD, pLstD, mDNew, pRepL, mLenSetN, mDIn, mSortSet, mSortSetL, mRevT, mForC, mSeqC, mLcC, pAbs, pMax2, pMin2, pInt1, mDGet, mDPut, mBM, mBM0, pPop, pAppend, pExtend, pSetL, mSub, mDisp, mPs, mPs0, mRevL, mRevLM, pLstOfM, mTupRg, mRg1, mRg2, pPlusM, lstItems, dictOfP, keyP, keysP, val_left, val_mixed, val_draws, put_draws, mLc, mLcM, mLc2, mFor, mSeqI, mRng1, mRng2, mZip, mEnum, mSl, mNoPart, mPart, mSeq, mAsg, mAsg2, mCB, mCons, mNil, mVar, mC, mOp, mUn, pU, mTup, mLst, mRet, mRetN, mLstM, getl, setl, mName, mCall, mCallK, mIf, mIfS, mTest, mAnd, mOr, mNot, mYes, mAndV, mOrV, mNotV, mNext, mNever, mBreak, mCont, mDrop, mChain, mPar, mGTup, mGCons, mGNil, pGcd, pI, pI0, pIx, pTimes, pPlus, pEq, pNe, pLen, pSum, pMaxS, pAll, pAny, pTupOf, pLstOf, pIn, pIsB, pIsi, items_tup, items_lst, items_kl, items_mr, items_tab, items_lot, items_fr, decide_true, decide_false, eqP_int, eqP_bl, eqP_str, eqP_tup2, kit_tt, kit_ii, kit_ib, tyP, mEnd, wipeP, List.map_cons, List.map_nil, List.getElem?_cons_zero, List.getElem?_cons_succ, List.set_cons_zero, List.set_cons_succ, atI_zero, atI_one, if_true, if_false, ite_true, ite_false, Bool.false_eq_true, List.length_cons, List.length_nil, Bool.not_true, Bool.not_false, DS, List.concat_eq_append, List.map_append, eqP_nc, last_c, List.dropLast_concat, eq_false_of_ne_true hc]
      have h := fun x => fin x I (k + 1) (by omega)
      simp only [DS, List.concat_eq_append, List.map_append, List.map_cons, List.map_nil] at h
      exact ⟨DKl _ _ _, mulL (by decide) (by decide), by decide, ⟨by decide, by decide, by decide⟩, by decide, mulR (by decide) (by decide), by decide, hq _ (by decide) (by decide), mulL (by decide) (by decide), by decide, mulR (by decide) (by decide), by decide, d64 _, m0, h _⟩
abbrev N_is_integer : List Str := ["thing"]
theorem sc_is_integer : FnScope N_is_integer ["thing"] (defScope s_is_integer) := ⟨rfl, rfl, rfl, by decide +kernel, rfl, by decide +kernel, by decide +kernel⟩
theorem ok_is_integer (B : Blt mg) (h_is_integer : Own K mg "is_integer" s_is_integer) : Ok P w K mg base 1 "is_integer" s_is_integer ["thing"] S_is_integer := by
  obtain ⟨f_s, fd_s, F_s, g_s⟩ := h_is_integer
  refine ⟨f_s, fd_s, F_s, g_s, F_s.binds (fun _ _ _ _ _ _ us hl => match us, hl with | [_], _ => rfl), FnG.of F_s sc_is_integer (fun xs μ Q h => by first | exact h.1 | exact h.2.1 | (obtain ⟨⟩ := h)) fun cdv A outer s H hr hgd => ⟨_, _, (pss_one (ps_ret (pe_and (pe_callB call_isi (by rfl) (B "isinstance" (by decide)) (by decide +kernel) (pa_cons (pv 0) (pa_cons (pe_bltn (v := .ty "int") (u := .type "int") (by rfl) (B "int" (by decide)) (by decide +kernel) rfl) pa_nil))) (pe_one (pe_not (pe_callB call_isi (by rfl) (B "isinstance" (by decide)) (by decide +kernel) (pa_cons (pv 0) (pa_cons (pe_bltn (v := .ty "bool") (u := .type "bool") (by rfl) (B "bool" (by decide)) (by decide +kernel) rfl) pa_nil)))))))), (by (try dsimp only [cxOf]); exact inferInstance), ?_⟩⟩
  intro xs μ Q hS
  obtain ⟨_, i, rfl, hQ⟩ := hS
  rw [show startP N_is_integer [.int i] = [some (.int i)] from rfl]
  simp only [mLockEN, mDNewN, mDGet2N, mDPutN, mValsN, pLenN, pSortTX, mDNewT, mZipM, mDc, mLenSetL, mDGetT, mDGet2T, mDInT, mDPutT, mLockX, mLockEX, mKeysX, pLstX, pLenX, pMaxT, pSortT, str_to, str_ot, mPar3, mLockV, mLockE, mItemsC, mKeysC, mDGet2, pIsN, isNonP, pRepLM, mTruD, dkOfP, pPopAt, pIndex, mLstRgM, mTruth, pReprA, pLenD, pLstD, mDNew, pRepL, mLenSetN, mDIn, mSortSet, mSortSetL, mRevT, mForC, mSeqC, mLcC, pAbs, pMax2, pMin2, pInt1, mDGet, mDPut, mBM, mBM0, pPop, pAppend, pExtend, pSetL, mSub, mDisp, mPs, mPs0, mRevL, mRevLM, pLstOfM, mTupRg, mRg1, mRg2, pPlusM, lstItems, dictOfP, keyP, keysP, val_left, val_mixed, val_draws, put_draws, mLc, mLcM, mLc2, mFor, mSeqI, mRng1, mRng2, mZip, mEnum, mSl, mNoPart, mPart, mSeq, mAsg, mAsg2, mCB, mCons, mNil, mVar, mC, mOp, mUn, pU, mTup, mLst, mRet, mRetN, mLstM, getl, setl, mName, mCall, mCallK, mIf, mIfS, mTest, mAnd, mOr, mNot, mYes, mAndV, mOrV, mNotV, mNext, mNever, mBreak, mCont, mDrop, mChain, mPar, mGTup, mGCons, mGNil, pGcd, pI, pI0, pIx, pTimes, pPlus, pEq, pNe, pLen, pSum, pMaxS, pAll, pAny, pTupOf, pLstOf, pIn, pIsB, pIsi, items_tup, items_lst, items_kl, items_mr, items_tab, items_lot, items_fr, decide_true, decide_false, eqP_int, eqP_bl, eqP_str, eqP_tup2, kit_tt, kit_ii, kit_ib, tyP, mEnd, wipeP, List.map_cons, List.map_nil, List.getElem?_cons_zero, List.getElem?_cons_succ, List.set_cons_zero, List.set_cons_succ, atI_zero, atI_one, if_true, if_false, ite_true, ite_false, Bool.false_eq_true, List.length_cons, List.length_nil, Bool.not_true, Bool.not_false]
  exact fin_keep hQ
abbrev N_drawn_behind : List Str := ["w", "rest", "n", "bits", "taken", "m", "r", "q"]
theorem sc_drawn_behind : FnScope N_drawn_behind ["w", "rest", "n", "bits", "taken"] (defScope s_drawn_behind) := ⟨rfl, rfl, rfl, by decide +kernel, rfl, by decide +kernel, by decide +kernel⟩
theorem ok_drawn_behind (B : Blt mg) (h_drawn_behind : Own K mg "drawn_behind" s_drawn_behind) : Ok P w K mg base 1 "drawn_behind" s_drawn_behind ["w", "rest", "n", "bits", "taken"] S_drawn_behind := by
  obtain ⟨f_s, fd_s, F_s, g_s⟩ := h_drawn_behind
  refine ⟨f_s, fd_s, F_s, g_s, F_s.binds (fun _ _ _ _ _ _ us hl => match us, hl with | [_, _, _, _, _], _ => rfl), FnG.of F_s sc_drawn_behind (fun xs μ Q h => by first | exact h.1 | exact h.2.1 | (obtain ⟨⟩ := h)) fun cdv A outer s H hr hgd => ⟨_, _, (pss_cons (ps_asg (pv 1) (pg_tup (n := 2) rfl (pgs_cons (pg_name (i := 5) sc_drawn_behind.nd rfl (Or.inl rfl)) (pgs_cons (pg_name (i := 6) sc_drawn_behind.nd rfl (Or.inl rfl)) pgs_nil))))
 (pss_one (ps_while PassesOwn.never (pt_val pe_bl)
 (pss_cons (ps_while PassesOwn.never (pt_cmpR op_lt (pv 5) (pe_op op_shlW pe_int (pv 0)) (nomark _))
 (pss_cons (ps_if (pt_cmpR (op_eqX hr.units) (pv 4) (pe_callB cb_len (by rfl) (B "len" (by decide)) (by decide +kernel) (pa_cons (pv 3) pa_nil)) (nomark _))
 (pss_one (ps_ret pe_non))
 pss_nil)
 (pss_cons (ps_par (i := 5) (j := 6) (by rfl) sc_drawn_behind.nd rfl rfl (by decide) rfl rfl (pa_cons (pe_op op_times pe_int (pv 5)) (pa_cons (pe_op op_plus (pe_op op_times pe_int (pv 6)) (pe_ix ix_seq (pv 3) (pv 4) (fun _ _ => rfl))) pa_nil)) (by rfl))
 (pss_one (ps_set (i := 4) sc_drawn_behind.nd rfl (Or.inl rfl) (pe_op op_plus (pv 4) pe_int))))))
 (pss_cons (ps_set (i := 7) sc_drawn_behind.nd rfl (Or.inl rfl) (pe_op op_divX (pv 5) (pv 2)))
 (pss_cons (ps_if (pt_cmpR op_lt (pv 6) (pe_op op_times (pv 7) (pv 2)) (nomark _))
 (pss_one (ps_ret (pe_tup (pa_cons (pe_op op_modX (pv 6) (pv 2)) (pa_cons (pe_tup (pa_cons (pv 7) (pa_cons (pe_op op_divX (pv 6) (pv 2)) pa_nil))) (pa_cons (pv 4) pa_nil))))))
 pss_nil)
 (pss_one (ps_par (i := 5) (j := 6) (by rfl) sc_drawn_behind.nd rfl rfl (by decide) rfl rfl (pa_cons (pe_op op_sub (pv 5) (pe_op op_times (pv 7) (pv 2))) (pa_cons (pe_op op_sub (pv 6) (pe_op op_times (pv 7) (pv 2))) pa_nil)) (by rfl))))))))), (by (try dsimp only [cxOf]); exact inferInstance), ?_⟩⟩
  intro xs μ Q hS
  obtain ⟨_, w, m, r, n, bs, t, rfl, w1, w2, n2, n3, n4, hb, hl, hr, hm, ht, hQ⟩ := hS
  rw [show startP N_drawn_behind [.int w, restP m r, .int n, lotP bs, .int t] = [some (.int w), some (restP m r), some (.int n), some (lotP bs), some (.int t), none, none, none] from rfl]
  refine stm_of fun R hR => ?_
  simp only [mLockEN, mDNewN, mDGet2N, mDPutN, mValsN, pLenN, pSortTX, mDNewT, mZipM, mDc, mLenSetL, mDGetT, mDGet2T, mDInT, mDPutT, mLockX, mLockEX, mKeysX, pLstX, pLenX, pMaxT, pSortT, str_to, str_ot, mPar3, mLockV, mLockE, mItemsC, mKeysC, mDGet2, pIsN, isNonP, pRepLM, mTruD, dkOfP, pPopAt, pIndex, mLstRgM, mTruth, pReprA, pLenD, pLstD, mDNew, pRepL, mLenSetN, mDIn, mSortSet, mSortSetL, mRevT, mForC, mSeqC, mLcC, pAbs, pMax2, pMin2, pInt1, mDGet, mDPut, mBM, mBM0, pPop, pAppend, pExtend, pSetL, mSub, mDisp, mPs, mPs0, mRevL, mRevLM, pLstOfM, mTupRg, mRg1, mRg2, pPlusM, lstItems, dictOfP, keyP, keysP, val_left, val_mixed, val_draws, put_draws, mLc, mLcM, mLc2, mFor, mSeqI, mRng1, mRng2, mZip, mEnum, mSl, mNoPart, mPart, mSeq, mAsg, mAsg2, mCB, mCons, mNil, mVar, mC, mOp, mUn, pU, mTup, mLst, mRet, mRetN, mLstM, getl, setl, mName, mCall, mCallK, mIf, mIfS, mTest, mAnd, mOr, mNot, mYes, mAndV, mOrV, mNotV, mNext, mNever, mBreak, mCont, mDrop, mChain, mPar, mGTup, mGCons, mGNil, pGcd, pI, pI0, pIx, pTimes, pPlus, pEq, pNe, pLen, pSum, pMaxS, pAll, pAny, pTupOf, pLstOf, pIn, pIsB, pIsi, items_tup, items_lst, items_kl, items_mr, items_tab, items_lot, items_fr, decide_true, decide_false, eqP_int, eqP_bl, eqP_str, eqP_tup2, kit_tt, kit_ii, kit_ib, tyP, mEnd, wipeP, List.map_cons, List.map_nil, List.getElem?_cons_zero, List.getElem?_cons_succ, List.set_cons_zero, List.set_cons_succ, atI_zero, atI_one, if_true, if_false, ite_true, ite_false, Bool.false_eq_true, List.length_cons, List.length_nil, Bool.not_true, Bool.not_false, restP]
  refine ⟨trivial, ?_⟩
  subst hR
  have p2 := pw_bnd w2
  have hsh : CShl 1 (w : Nat) := shl_ok (n := 1) (by decide) (by omega)
  refine while_inv (fun k ρ μ' => (∃ (t1 m1 r1 : Nat) (y : Option PV), ρ = [some (.int (w : Nat)), some (.tup [.int (m : Nat), .int (r : Nat)]), some (.int (n : Nat)), some (lotP bs), some (.int (t1 : Nat)), some (.int (m1 : Nat)), some (.int (r1 : Nat)), y] ∧ r1 < m1 ∧ m1 < 2 * 2 ^ w ∧ t1 ≤ bs.length ∧ wntT (2 ^ w) n bs t1 m1 r1 = wntT (2 ^ w) n bs t m r ∧ 2 * (bs.length - t1) + (if 2 ^ w ≤ m1 then 1 else 0) ≤ k) ∧ μ' = μ) (n := 2 * bs.length + 1) ⟨⟨t, m, r, none, rfl, hr, hm, ht, rfl, by split <;> omega⟩, rfl⟩ fun k ρ μ1 hI => ?_
  obtain ⟨⟨t1, m1, r1, y, rfl, q1, q2, q3, q4, q5⟩, rfl⟩ := hI
  simp only [mLockEN, mDNewN, mDGet2N, mDPutN, mValsN, pLenN, pSortTX, mDNewT, mZipM, mDc, mLenSetL, mDGetT, mDGet2T, mDInT, mDPutT, mLockX, mLockEX, mKeysX, pLstX, pLenX, pMaxT, pSortT, str_to, str_ot, mPar3, mLockV, mLockE, mItemsC, mKeysC, mDGet2, pIsN, isNonP, pRepLM, mTruD, dkOfP, pPopAt, pIndex, mLstRgM, mTruth, pReprA, pLenD, pLstD, mDNew, pRepL, mLenSetN, mDIn, mSortSet, mSortSetL, mRevT, mForC, mSeqC, mLcC, pAbs, pMax2, pMin2, pInt1, mDGet, mDPut, mBM, mBM0, pPop, pAppend, pExtend, pSetL, mSub, mDisp, mPs, mPs0, mRevL, mRevLM, pLstOfM, mTupRg, mRg1, mRg2, pPlusM, lstItems, dictOfP, keyP, keysP, val_left, val_mixed, val_draws, put_draws, mLc, mLcM, mLc2, mFor, mSeqI, mRng1, mRng2, mZip, mEnum, mSl, mNoPart, mPart, mSeq, mAsg, mAsg2, mCB, mCons, mNil, mVar, mC, mOp, mUn, pU, mTup, mLst, mRet, mRetN, mLstM, getl, setl, mName, mCall, mCallK, mIf, mIfS, mTest, mAnd, mOr, mNot, mYes, mAndV, mOrV, mNotV, mNext, mNever, mBreak, mCont, mDrop, mChain, mPar, mGTup, mGCons, mGNil, pGcd, pI, pI0, pIx, pTimes, pPlus, pEq, pNe, pLen, pSum, pMaxS, pAll, pAny, pTupOf, pLstOf, pIn, pIsB, pIsi, items_tup, items_lst, items_kl, items_mr, items_tab, items_lot, items_fr, decide_true, decide_false, eqP_int, eqP_bl, eqP_str, eqP_tup2, kit_tt, kit_ii, kit_ib, tyP, mEnd, wipeP, List.map_cons, List.map_nil, List.getElem?_cons_zero, List.getElem?_cons_succ, List.set_cons_zero, List.set_cons_succ, atI_zero, atI_one, if_true, if_false, ite_true, ite_false, Bool.false_eq_true, List.length_cons, List.length_nil, Bool.not_true, Bool.not_false]
  refine while_inv (fun j ρ μ' => (∃ (t1 m1 r1 : Nat) (y : Option PV), ρ = [some (.int (w : Nat)), some (.tup [.int (m : Nat), .int (r : Nat)]), some (.int (n : Nat)), some (lotP bs), some (.int (t1 : Nat)), some (.int (m1 : Nat)), some (.int (r1 : Nat)), y] ∧ r1 < m1 ∧ m1 < 2 * 2 ^ w ∧ t1 ≤ bs.length ∧ wntT (2 ^ w) n bs t1 m1 r1 = wntT (2 ^ w) n bs t m r ∧ 2 * (bs.length - t1) + (if 2 ^ w ≤ m1 then 1 else 0) ≤ k ∧ j = bs.length - t1) ∧ μ' = μ1) (n := bs.length - t1) ⟨⟨t1, m1, r1, y, rfl, q1, q2, q3, q4, q5, rfl⟩, rfl⟩ fun j ρ μ2 hI => ?_
  clear q1 q2 q3 q4 q5 y
  obtain ⟨⟨t1, m1, r1, y, rfl, q1, q2, q3, q4, q5, rfl⟩, rfl⟩ := hI
  simp only [mLockEN, mDNewN, mDGet2N, mDPutN, mValsN, pLenN, pSortTX, mDNewT, mZipM, mDc, mLenSetL, mDGetT, mDGet2T, mDInT, mDPutT, mLockX, mLockEX, mKeysX, pLstX, pLenX, pMaxT, pSortT, str_to, str_ot, mPar3, mLockV, mLockE, mItemsC, mKeysC, mDGet2, pIsN, isNonP, pRepLM, mTruD, dkOfP, pPopAt, pIndex, mLstRgM, mTruth, pReprA, pLenD, pLstD, mDNew, pRepL, mLenSetN, mDIn, mSortSet, mSortSetL, mRevT, mForC, mSeqC, mLcC, pAbs, pMax2, pMin2, pInt1, mDGet, mDPut, mBM, mBM0, pPop, pAppend, pExtend, pSetL, mSub, mDisp, mPs, mPs0, mRevL, mRevLM, pLstOfM, mTupRg, mRg1, mRg2, pPlusM, lstItems, dictOfP, keyP, keysP, val_left, val_mixed, val_draws, put_draws, mLc, mLcM, mLc2, mFor, mSeqI, mRng1, mRng2, mZip, mEnum, mSl, mNoPart, mPart, mSeq, mAsg, mAsg2, mCB, mCons, mNil, mVar, mC, mOp, mUn, pU, mTup, mLst, mRet, mRetN, mLstM, getl, setl, mName, mCall, mCallK, mIf, mIfS, mTest, mAnd, mOr, mNot, mYes, mAndV, mOrV, mNotV, mNext, mNever, mBreak, mCont, mDrop, mChain, mPar, mGTup, mGCons, mGNil, pGcd, pI, pI0, pIx, pTimes, pPlus, pEq, pNe, pLen, pSum, pMaxS, pAll, pAny, pTupOf, pLstOf, pIn, pIsB, pIsi, items_tup, items_lst, items_kl, items_mr, items_tab, items_lot, items_fr, decide_true, decide_false, eqP_int, eqP_bl, eqP_str, eqP_tup2, kit_tt, kit_ii, kit_ib, tyP, mEnd, wipeP, List.map_cons, List.map_nil, List.getElem?_cons_zero, List.getElem?_cons_succ, List.set_cons_zero, List.set_cons_succ, atI_zero, atI_one, if_true, if_false, ite_true, ite_false, Bool.false_eq_true, List.length_cons, List.length_nil, Bool.not_true, Bool.not_false]
  simp only [shl1w]
  refine ⟨hsh, ?_⟩
  by_cases hc : m1 < 2 ^ w
  · rw [decide_eq_true (by omega), if_pos rfl]
    simp only [mLockEN, mDNewN, mDGet2N, mDPutN, mValsN, pLenN, pSortTX, mDNewT, mZipM, mDc, mLenSetL, mDGetT, mDGet2T, mDInT, mDPutT, mLockX, mLockEX, mKeysX, pLstX, pLenX, pMaxT, pSortT, str_to, str_ot, mPar3, mLockV, mLockE, mItemsC, mKeysC, mDGet2, pIsN, isNonP, pRepLM, mTruD, dkOfP, pPopAt, pIndex, mLstRgM, mTruth, pReprA, pLenD, pLstD, mDNew, pRepL, mLenSetN, mDIn, mSortSet, mSortSetL, mRevT, mForC, mSeqC, mLcC, pAbs, pMax2, pMin2, pInt1, mDGet, mDPut, mBM, mBM0, pPop, pAppend, pExtend, pSetL, mSub, mDisp, mPs, mPs0, mRevL, mRevLM, pLstOfM, mTupRg, mRg1, mRg2, pPlusM, lstItems, dictOfP, keyP, keysP, val_left, val_mixed, val_draws, put_draws, mLc, mLcM, mLc2, mFor, mSeqI, mRng1, mRng2, mZip, mEnum, mSl, mNoPart, mPart, mSeq, mAsg, mAsg2, mCB, mCons, mNil, mVar, mC, mOp, mUn, pU, mTup, mLst, mRet, mRetN, mLstM, getl, setl, mName, mCall, mCallK, mIf, mIfS, mTest, mAnd, mOr, mNot, mYes, mAndV, mOrV, mNotV, mNext, mNever, mBreak, mCont, mDrop, mChain, mPar, mGTup, mGCons, mGNil, pGcd, pI, pI0, pIx, pTimes, pPlus, pEq, pNe, pLen, pSum, pMaxS, pAll, pAny, pTupOf, pLstOf, pIn, pIsB, pIsi, items_tup, items_lst, items_kl, items_mr, items_tab, items_lot, items_fr, decide_true, decide_false, eqP_int, eqP_bl, eqP_str, eqP_tup2, kit_tt, kit_ii, kit_ib, tyP, mEnd, wipeP, List.map_cons, List.map_nil, List.getElem?_cons_zero, List.getElem?_cons_succ, List.set_cons_zero, List.set_cons_succ, atI_zero, atI_one, if_true, if_false, ite_true, ite_false, Bool.false_eq_true, List.length_cons, List.length_nil, Bool.not_true, Bool.not_false, lotP, List.length_map]
    by_cases he : t1 = bs.length
    · rw [decide_eq_true (by omega), if_pos rfl]
      subst he
      rw [← q4, wntT_end bs hc] at hQ
      exact fin_keep hQ
    · have ht1 : t1 < bs.length := by omega
      have hb1 : bs.getD t1 0 < 2 := by
        rw [List.getD_eq_getElem?_getD, List.getElem?_eq_getElem ht1]
        exact hb _ (List.getElem_mem ht1)
      rw [decide_eq_false (by omega), if_neg (by decide)]
      simp only [atL ht1]
      refine ⟨mulL (by decide) (by decide), mulL (by decide) (by decide), bs.length - (t1 + 1), by omega, ⟨t1 + 1, 2 * m1, 2 * r1 + bs.getD t1 0, y, by push_cast; rfl, by omega, by omega, by omega, ?_, ?_, rfl⟩, trivial⟩
      · rw [← wntT_bit ht1 hc]; exact q4
      · rw [if_neg (by omega)] at q5
        split <;> omega
  · rw [decide_eq_false (by omega), if_neg (by decide)]
    simp only [mLockEN, mDNewN, mDGet2N, mDPutN, mValsN, pLenN, pSortTX, mDNewT, mZipM, mDc, mLenSetL, mDGetT, mDGet2T, mDInT, mDPutT, mLockX, mLockEX, mKeysX, pLstX, pLenX, pMaxT, pSortT, str_to, str_ot, mPar3, mLockV, mLockE, mItemsC, mKeysC, mDGet2, pIsN, isNonP, pRepLM, mTruD, dkOfP, pPopAt, pIndex, mLstRgM, mTruth, pReprA, pLenD, pLstD, mDNew, pRepL, mLenSetN, mDIn, mSortSet, mSortSetL, mRevT, mForC, mSeqC, mLcC, pAbs, pMax2, pMin2, pInt1, mDGet, mDPut, mBM, mBM0, pPop, pAppend, pExtend, pSetL, mSub, mDisp, mPs, mPs0, mRevL, mRevLM, pLstOfM, mTupRg, mRg1, mRg2, pPlusM, lstItems, dictOfP, keyP, keysP, val_left, val_mixed, val_draws, put_draws, mLc, mLcM, mLc2, mFor, mSeqI, mRng1, mRng2, mZip, mEnum, mSl, mNoPart, mPart, mSeq, mAsg, mAsg2, mCB, mCons, mNil, mVar, mC, mOp, mUn, pU, mTup, mLst, mRet, mRetN, mLstM, getl, setl, mName, mCall, mCallK, mIf, mIfS, mTest, mAnd, mOr, mNot, mYes, mAndV, mOrV, mNotV, mNext, mNever, mBreak, mCont, mDrop, mChain, mPar, mGTup, mGCons, mGNil, pGcd, pI, pI0, pIx, pTimes, pPlus, pEq, pNe, pLen, pSum, pMaxS, pAll, pAny, pTupOf, pLstOf, pIn, pIsB, pIsi, items_tup, items_lst, items_kl, items_mr, items_tab, items_lot, items_fr, decide_true, decide_false, eqP_int, eqP_bl, eqP_str, eqP_tup2, kit_tt, kit_ii, kit_ib, tyP, mEnd, wipeP, List.map_cons, List.map_nil, List.getElem?_cons_zero, List.getElem?_cons_succ, List.set_cons_zero, List.set_cons_succ, atI_zero, atI_one, if_true, if_false, ite_true, ite_false, Bool.false_eq_true, List.length_cons, List.length_nil, Bool.not_true, Bool.not_false, fdivN, fmodN]
    have hW : 2 ^ w ≤ m1 := by omega
    have hd : ∀ x : Int, DivOk x (n : Nat) := fun x => .inl ⟨by omega, by have := log_lt (x := (n : Int)) (n := 12) (by rw [Int.natAbs_natCast]; omega); omega⟩
    have hmul : Fx.MulOk ((m1 / n : Nat) : Int) (n : Nat) := mulR (by omega) (by omega)
    simp only [← Int.natCast_mul]
    by_cases hr1 : r1 < m1 / n * n
    · rw [decide_eq_true (by omega), if_pos rfl]
      rw [← q4, wntT_acc bs t1 hW hr1] at hQ
      exact ⟨hd _, hmul, by omega, hd _, by decide, by decide, fin_keep hQ⟩
    · rw [decide_eq_false (by omega), if_neg (by decide)]
      have hle := Nat.div_mul_le_self m1 n
      have hlt : m1 - m1 / n * n < n := mod_lt' (by omega)
      rw [if_pos hW] at q5
      refine ⟨hd _, hmul, hmul, hmul, 2 * (bs.length - t1), by omega, ⟨t1, m1 - m1 / n * n, r1 - m1 / n * n, _, by rw [Int.natCast_sub hle, Int.natCast_sub (by omega : m1 / n * n ≤ r1)], by omega, by omega, q3, ?_, ?_⟩, trivial⟩
      · rw [← wntT_rej bs t1 (by omega) n4 hW hr1]; exact q4
      · rw [if_neg (by omega)]; omega
abbrev N__law_wanted : List Str := ["_law_w", "_law_rest", "_law_n", "_law_bits_here", "_law_m", "_law_r", "_law_taken", "_law_turn", "_law_q"]
theorem sc__law_wanted : FnScope N__law_wanted ["_law_w", "_law_rest", "_law_n", "_law_bits_here"] (defScope s__law_wanted) := ⟨rfl, rfl, rfl, by decide +kernel, rfl, by decide +kernel, by decide +kernel⟩
theorem ok__law_wanted (B : Blt mg) (h__law_wanted : Own K mg "_law_wanted" s__law_wanted) : Ok P w K mg base 1 "_law_wanted" s__law_wanted ["_law_w", "_law_rest", "_law_n", "_law_bits_here"] S__law_wanted := by
  obtain ⟨f_s, fd_s, F_s, g_s⟩ := h__law_wanted
  refine ⟨f_s, fd_s, F_s, g_s, F_s.binds (fun _ _ _ _ _ _ us hl => match us, hl with | [_, _, _, _], _ => rfl), FnG.of F_s sc__law_wanted (fun xs μ Q h => by first | exact h.1 | exact h.2.1 | (obtain ⟨⟩ := h)) fun cdv A outer s H hr hgd => ⟨_, _, (pss_cons (ps_asg (pe_tup (pa_cons (pv 1) (pa_cons pe_int pa_nil))) (pg_tup (n := 2) rfl (pgs_cons (pg_tup (n := 2) rfl (pgs_cons (pg_name (i := 4) sc__law_wanted.nd rfl (Or.inl rfl)) (pgs_cons (pg_name (i := 5) sc__law_wanted.nd rfl (Or.inl rfl)) pgs_nil))) (pgs_cons (pg_name (i := 6) sc__law_wanted.nd rfl (Or.inl rfl)) pgs_nil))))
 (pss_cons (ps_for PassesOwn.never rfl (pi_range1 (by rfl) (B "range" (by decide)) (pa_cons (pe_op op_plus (pe_callB cb_len (by rfl) (B "len" (by decide)) (by decide +kernel) (pa_cons (pv 3) pa_nil)) pe_int) pa_nil)) (pg_name (i := 7) sc__law_wanted.nd rfl (Or.inl rfl))
 (pss_cons (ps_while PassesOwn.never (pt_cmpR op_lt (pv 4) (pe_op op_shlW pe_int (pv 0)) (nomark _))
 (pss_cons (ps_if (pt_cmpR (op_eqX hr.units) (pv 6) (pe_callB cb_len (by rfl) (B "len" (by decide)) (by decide +kernel) (pa_cons (pv 3) pa_nil)) (nomark _))
 (pss_one (ps_ret pe_non))
 pss_nil)
 (pss_one (ps_par3 (i := 4) (j := 5) (l := 6) (by rfl) sc__law_wanted.nd rfl rfl rfl (by decide) (by decide) (by decide) rfl rfl rfl (pa_cons (pe_op op_times pe_int (pv 4)) (pa_cons (pe_op op_plus (pe_op op_times pe_int (pv 5)) (pe_ix ix_seq (pv 3) (pv 6) (fun _ _ => rfl))) (pa_cons (pe_op op_plus (pv 6) pe_int) pa_nil))) (by rfl)))))
 (pss_cons (ps_set (i := 8) sc__law_wanted.nd rfl (Or.inl rfl) (pe_op op_divX (pv 4) (pv 2)))
 (pss_cons (ps_if (pt_cmpR op_lt (pv 5) (pe_op op_times (pv 8) (pv 2)) (nomark _))
 (pss_one (ps_ret (pe_tup (pa_cons (pe_op op_modX (pe_callTy cb_int1 (by rfl) (B "int" (by decide)) (by decide +kernel) (pa_cons (pv 5) pa_nil)) (pv 2)) (pa_cons (pe_tup (pa_cons (pv 8) (pa_cons (pe_op op_divX (pv 5) (pv 2)) pa_nil))) (pa_cons (pv 6) pa_nil))))))
 pss_nil)
 (pss_one (ps_par (i := 4) (j := 5) (by rfl) sc__law_wanted.nd rfl rfl (by decide) rfl rfl (pa_cons (pe_op op_sub (pv 4) (pe_op op_times (pv 8) (pv 2))) (pa_cons (pe_op op_sub (pv 5) (pe_op op_times (pv 8) (pv 2))) pa_nil)) (by rfl)))))))
 (pss_one (ps_ret pe_non)))), (by (try dsimp only [cxOf]); exact inferInstance), ?_⟩⟩
  intro xs μ Q hS
  obtain ⟨_, w, m, r, n, bs, rfl, w1, w2, n2, n3, n4, hb, hl, hr, hm, hQ⟩ := hS
  rw [show startP N__law_wanted [.int w, restP m r, .int n, lotP bs] = [some (.int w), some (restP m r), some (.int n), some (lotP bs), none, none, none, none, none] from rfl]
  refine stm_of fun R hR => ?_
  simp only [mLockEN, mDNewN, mDGet2N, mDPutN, mValsN, pLenN, pSortTX, mDNewT, mZipM, mDc, mLenSetL, mDGetT, mDGet2T, mDInT, mDPutT, mLockX, mLockEX, mKeysX, pLstX, pLenX, pMaxT, pSortT, str_to, str_ot, mPar3, mLockV, mLockE, mItemsC, mKeysC, mDGet2, pIsN, isNonP, pRepLM, mTruD, dkOfP, pPopAt, pIndex, mLstRgM, mTruth, pReprA, pLenD, pLstD, mDNew, pRepL, mLenSetN, mDIn, mSortSet, mSortSetL, mRevT, mForC, mSeqC, mLcC, pAbs, pMax2, pMin2, pInt1, mDGet, mDPut, mBM, mBM0, pPop, pAppend, pExtend, pSetL, mSub, mDisp, mPs, mPs0, mRevL, mRevLM, pLstOfM, mTupRg, mRg1, mRg2, pPlusM, lstItems, dictOfP, keyP, keysP, val_left, val_mixed, val_draws, put_draws, mLc, mLcM, mLc2, mFor, mSeqI, mRng1, mRng2, mZip, mEnum, mSl, mNoPart, mPart, mSeq, mAsg, mAsg2, mCB, mCons, mNil, mVar, mC, mOp, mUn, pU, mTup, mLst, mRet, mRetN, mLstM, getl, setl, mName, mCall, mCallK, mIf, mIfS, mTest, mAnd, mOr, mNot, mYes, mAndV, mOrV, mNotV, mNext, mNever, mBreak, mCont, mDrop, mChain, mPar, mGTup, mGCons, mGNil, pGcd, pI, pI0, pIx, pTimes, pPlus, pEq, pNe, pLen, pSum, pMaxS, pAll, pAny, pTupOf, pLstOf, pIn, pIsB, pIsi, items_tup, items_lst, items_kl, items_mr, items_tab, items_lot, items_fr, decide_true, decide_false, eqP_int, eqP_bl, eqP_str, eqP_tup2, kit_tt, kit_ii, kit_ib, tyP, mEnd, wipeP, List.map_cons, List.map_nil, List.getElem?_cons_zero, List.getElem?_cons_succ, List.set_cons_zero, List.set_cons_succ, atI_zero, atI_one, if_true, if_false, ite_true, ite_false, Bool.false_eq_true, List.length_cons, List.length_nil, Bool.not_true, Bool.not_false, restP]
  refine ⟨by decide, trivial, trivial, ?_⟩
  subst hR
  refine stm_of fun R1 hR1 => ?_
  simp only [mLockEN, mDNewN, mDGet2N, mDPutN, mValsN, pLenN, pSortTX, mDNewT, mZipM, mDc, mLenSetL, mDGetT, mDGet2T, mDInT, mDPutT, mLockX, mLockEX, mKeysX, pLstX, pLenX, pMaxT, pSortT, str_to, str_ot, mPar3, mLockV, mLockE, mItemsC, mKeysC, mDGet2, pIsN, isNonP, pRepLM, mTruD, dkOfP, pPopAt, pIndex, mLstRgM, mTruth, pReprA, pLenD, pLstD, mDNew, pRepL, mLenSetN, mDIn, mSortSet, mSortSetL, mRevT, mForC, mSeqC, mLcC, pAbs, pMax2, pMin2, pInt1, mDGet, mDPut, mBM, mBM0, pPop, pAppend, pExtend, pSetL, mSub, mDisp, mPs, mPs0, mRevL, mRevLM, pLstOfM, mTupRg, mRg1, mRg2, pPlusM, lstItems, dictOfP, keyP, keysP, val_left, val_mixed, val_draws, put_draws, mLc, mLcM, mLc2, mFor, mSeqI, mRng1, mRng2, mZip, mEnum, mSl, mNoPart, mPart, mSeq, mAsg, mAsg2, mCB, mCons, mNil, mVar, mC, mOp, mUn, pU, mTup, mLst, mRet, mRetN, mLstM, getl, setl, mName, mCall, mCallK, mIf, mIfS, mTest, mAnd, mOr, mNot, mYes, mAndV, mOrV, mNotV, mNext, mNever, mBreak, mCont, mDrop, mChain, mPar, mGTup, mGCons, mGNil, pGcd, pI, pI0, pIx, pTimes, pPlus, pEq, pNe, pLen, pSum, pMaxS, pAll, pAny, pTupOf, pLstOf, pIn, pIsB, pIsi, items_tup, items_lst, items_kl, items_mr, items_tab, items_lot, items_fr, decide_true, decide_false, eqP_int, eqP_bl, eqP_str, eqP_tup2, kit_tt, kit_ii, kit_ib, tyP, mEnd, wipeP, List.map_cons, List.map_nil, List.getElem?_cons_zero, List.getElem?_cons_succ, List.set_cons_zero, List.set_cons_succ, atI_zero, atI_one, if_true, if_false, ite_true, ite_false, Bool.false_eq_true, List.length_cons, List.length_nil, Bool.not_true, Bool.not_false, len_lot]
  have p2 := pw_bnd w2
  have hsh : CShl 1 (w : Nat) := shl_ok (n := 1) (by decide) (by omega)
  rw [List.length_map, show (((bs.length : Nat) : Int) + 2).toNat = bs.length + 2 by omega, rangeP_eq]
  refine ⟨⟨by omega, by omega⟩, for_inv (enc := fun (i : Nat) => PV.int i) (fun pre ρ μ' => (∃ (t1 m1 r1 : Nat) (y7 y8 : Option PV), ρ = [some (.int (w : Nat)), some (.tup [.int (m : Nat), .int (r : Nat)]), some (.int (n : Nat)), some (lotP bs), some (.int (m1 : Nat)), some (.int (r1 : Nat)), some (.int (t1 : Nat)), y7, y8] ∧ r1 < m1 ∧ m1 < 2 * 2 ^ w ∧ t1 ≤ bs.length ∧ wntT (2 ^ w) n bs t1 m1 r1 = wntT (2 ^ w) n bs 0 m r ∧ (pre.length ≤ t1 ∨ m1 < 2 ^ w ∧ pre.length ≤ t1 + 1)) ∧ μ' = μ) (done := []) ⟨⟨0, m, r, none, none, rfl, hr, hm, Nat.zero_le _, rfl, .inl (Nat.le_refl _)⟩, rfl⟩ (fun pre a post ρ μ1 e hI N hN => ?_) fun ρ μ' hI => ?_⟩
  · obtain ⟨⟨t1, m1, r1, y7, y8, rfl, q1, q2, q3, q4, q5⟩, rfl⟩ := hI
    simp only [mLockEN, mDNewN, mDGet2N, mDPutN, mValsN, pLenN, pSortTX, mDNewT, mZipM, mDc, mLenSetL, mDGetT, mDGet2T, mDInT, mDPutT, mLockX, mLockEX, mKeysX, pLstX, pLenX, pMaxT, pSortT, str_to, str_ot, mPar3, mLockV, mLockE, mItemsC, mKeysC, mDGet2, pIsN, isNonP, pRepLM, mTruD, dkOfP, pPopAt, pIndex, mLstRgM, mTruth, pReprA, pLenD, pLstD, mDNew, pRepL, mLenSetN, mDIn, mSortSet, mSortSetL, mRevT, mForC, mSeqC, mLcC, pAbs, pMax2, pMin2, pInt1, mDGet, mDPut, mBM, mBM0, pPop, pAppend, pExtend, pSetL, mSub, mDisp, mPs, mPs0, mRevL, mRevLM, pLstOfM, mTupRg, mRg1, mRg2, pPlusM, lstItems, dictOfP, keyP, keysP, val_left, val_mixed, val_draws, put_draws, mLc, mLcM, mLc2, mFor, mSeqI, mRng1, mRng2, mZip, mEnum, mSl, mNoPart, mPart, mSeq, mAsg, mAsg2, mCB, mCons, mNil, mVar, mC, mOp, mUn, pU, mTup, mLst, mRet, mRetN, mLstM, getl, setl, mName, mCall, mCallK, mIf, mIfS, mTest, mAnd, mOr, mNot, mYes, mAndV, mOrV, mNotV, mNext, mNever, mBreak, mCont, mDrop, mChain, mPar, mGTup, mGCons, mGNil, pGcd, pI, pI0, pIx, pTimes, pPlus, pEq, pNe, pLen, pSum, pMaxS, pAll, pAny, pTupOf, pLstOf, pIn, pIsB, pIsi, items_tup, items_lst, items_kl, items_mr, items_tab, items_lot, items_fr, decide_true, decide_false, eqP_int, eqP_bl, eqP_str, eqP_tup2, kit_tt, kit_ii, kit_ib, tyP, mEnd, wipeP, List.map_cons, List.map_nil, List.getElem?_cons_zero, List.getElem?_cons_succ, List.set_cons_zero, List.set_cons_succ, atI_zero, atI_one, if_true, if_false, ite_true, ite_false, Bool.false_eq_true, List.length_cons, List.length_nil, Bool.not_true, Bool.not_false]
    refine while_inv (fun j ρ μ' => (∃ (t1 m1 r1 : Nat) (y8 : Option PV), ρ = [some (.int (w : Nat)), some (.tup [.int (m : Nat), .int (r : Nat)]), some (.int (n : Nat)), some (lotP bs), some (.int (m1 : Nat)), some (.int (r1 : Nat)), some (.int (t1 : Nat)), some (.int (a : Nat)), y8] ∧ r1 < m1 ∧ m1 < 2 * 2 ^ w ∧ t1 ≤ bs.length ∧ wntT (2 ^ w) n bs t1 m1 r1 = wntT (2 ^ w) n bs 0 m r ∧ (pre.length ≤ t1 ∨ m1 < 2 ^ w ∧ pre.length ≤ t1 + 1) ∧ j = bs.length - t1) ∧ μ' = μ1) (n := bs.length - t1) ⟨⟨t1, m1, r1, y8, rfl, q1, q2, q3, q4, q5, rfl⟩, rfl⟩ fun j ρ μ2 hI => ?_
    clear q1 q2 q3 q4 q5 y8
    obtain ⟨⟨t1, m1, r1, y8, rfl, q1, q2, q3, q4, q5, rfl⟩, rfl⟩ := hI
    simp only [mLockEN, mDNewN, mDGet2N, mDPutN, mValsN, pLenN, pSortTX, mDNewT, mZipM, mDc, mLenSetL, mDGetT, mDGet2T, mDInT, mDPutT, mLockX, mLockEX, mKeysX, pLstX, pLenX, pMaxT, pSortT, str_to, str_ot, mPar3, mLockV, mLockE, mItemsC, mKeysC, mDGet2, pIsN, isNonP, pRepLM, mTruD, dkOfP, pPopAt, pIndex, mLstRgM, mTruth, pReprA, pLenD, pLstD, mDNew, pRepL, mLenSetN, mDIn, mSortSet, mSortSetL, mRevT, mForC, mSeqC, mLcC, pAbs, pMax2, pMin2, pInt1, mDGet, mDPut, mBM, mBM0, pPop, pAppend, pExtend, pSetL, mSub, mDisp, mPs, mPs0, mRevL, mRevLM, pLstOfM, mTupRg, mRg1, mRg2, pPlusM, lstItems, dictOfP, keyP, keysP, val_left, val_mixed, val_draws, put_draws, mLc, mLcM, mLc2, mFor, mSeqI, mRng1, mRng2, mZip, mEnum, mSl, mNoPart, mPart, mSeq, mAsg, mAsg2, mCB, mCons, mNil, mVar, mC, mOp, mUn, pU, mTup, mLst, mRet, mRetN, mLstM, getl, setl, mName, mCall, mCallK, mIf, mIfS, mTest, mAnd, mOr, mNot, mYes, mAndV, mOrV, mNotV, mNext, mNever, mBreak, mCont, mDrop, mChain, mPar, mGTup, mGCons, mGNil, pGcd, pI, pI0, pIx, pTimes, pPlus, pEq, pNe, pLen, pSum, pMaxS, pAll, pAny, pTupOf, pLstOf, pIn, pIsB, pIsi, items_tup, items_lst, items_kl, items_mr, items_tab, items_lot, items_fr, decide_true, decide_false, eqP_int, eqP_bl, eqP_str, eqP_tup2, kit_tt, kit_ii, kit_ib, tyP, mEnd, wipeP, List.map_cons, List.map_nil, List.getElem?_cons_zero, List.getElem?_cons_succ, List.set_cons_zero, List.set_cons_succ, atI_zero, atI_one, if_true, if_false, ite_true, ite_false, Bool.false_eq_true, List.length_cons, List.length_nil, Bool.not_true, Bool.not_false]
    simp only [shl1w]
    refine ⟨hsh, ?_⟩
    by_cases hc : m1 < 2 ^ w
    · rw [decide_eq_true (by omega), if_pos rfl]
      simp only [mLockEN, mDNewN, mDGet2N, mDPutN, mValsN, pLenN, pSortTX, mDNewT, mZipM, mDc, mLenSetL, mDGetT, mDGet2T, mDInT, mDPutT, mLockX, mLockEX, mKeysX, pLstX, pLenX, pMaxT, pSortT, str_to, str_ot, mPar3, mLockV, mLockE, mItemsC, mKeysC, mDGet2, pIsN, isNonP, pRepLM, mTruD, dkOfP, pPopAt, pIndex, mLstRgM, mTruth, pReprA, pLenD, pLstD, mDNew, pRepL, mLenSetN, mDIn, mSortSet, mSortSetL, mRevT, mForC, mSeqC, mLcC, pAbs, pMax2, pMin2, pInt1, mDGet, mDPut, mBM, mBM0, pPop, pAppend, pExtend, pSetL, mSub, mDisp, mPs, mPs0, mRevL, mRevLM, pLstOfM, mTupRg, mRg1, mRg2, pPlusM, lstItems, dictOfP, keyP, keysP, val_left, val_mixed, val_draws, put_draws, mLc, mLcM, mLc2, mFor, mSeqI, mRng1, mRng2, mZip, mEnum, mSl, mNoPart, mPart, mSeq, mAsg, mAsg2, mCB, mCons, mNil, mVar, mC, mOp, mUn, pU, mTup, mLst, mRet, mRetN, mLstM, getl, setl, mName, mCall, mCallK, mIf, mIfS, mTest, mAnd, mOr, mNot, mYes, mAndV, mOrV, mNotV, mNext, mNever, mBreak, mCont, mDrop, mChain, mPar, mGTup, mGCons, mGNil, pGcd, pI, pI0, pIx, pTimes, pPlus, pEq, pNe, pLen, pSum, pMaxS, pAll, pAny, pTupOf, pLstOf, pIn, pIsB, pIsi, items_tup, items_lst, items_kl, items_mr, items_tab, items_lot, items_fr, decide_true, decide_false, eqP_int, eqP_bl, eqP_str, eqP_tup2, kit_tt, kit_ii, kit_ib, tyP, mEnd, wipeP, List.map_cons, List.map_nil, List.getElem?_cons_zero, List.getElem?_cons_succ, List.set_cons_zero, List.set_cons_succ, atI_zero, atI_one, if_true, if_false, ite_true, ite_false, Bool.false_eq_true, List.length_cons, List.length_nil, Bool.not_true, Bool.not_false, lotP, List.length_map]
      by_cases he : t1 = bs.length
      · rw [decide_eq_true (by omega), if_pos rfl]
        subst he
        rw [← wntT_zero, ← q4, wntT_end bs hc] at hQ
        exact fin_keep hQ
      · have ht1 : t1 < bs.length := by omega
        have hb1 : bs.getD t1 0 < 2 := by
          rw [List.getD_eq_getElem?_getD, List.getElem?_eq_getElem ht1]
          exact hb _ (List.getElem_mem ht1)
        rw [decide_eq_false (by omega), if_neg (by decide)]
        simp only [atL ht1]
        refine ⟨mulL (by decide) (by decide), mulL (by decide) (by decide), bs.length - (t1 + 1), by omega, ⟨t1 + 1, 2 * m1, 2 * r1 + bs.getD t1 0, _, by push_cast; rfl, by omega, by omega, by omega, ?_, by omega, rfl⟩, trivial⟩
        rw [← wntT_bit ht1 hc]; exact q4
    · rw [decide_eq_false (by omega), if_neg (by decide)]
      simp only [mLockEN, mDNewN, mDGet2N, mDPutN, mValsN, pLenN, pSortTX, mDNewT, mZipM, mDc, mLenSetL, mDGetT, mDGet2T, mDInT, mDPutT, mLockX, mLockEX, mKeysX, pLstX, pLenX, pMaxT, pSortT, str_to, str_ot, mPar3, mLockV, mLockE, mItemsC, mKeysC, mDGet2, pIsN, isNonP, pRepLM, mTruD, dkOfP, pPopAt, pIndex, mLstRgM, mTruth, pReprA, pLenD, pLstD, mDNew, pRepL, mLenSetN, mDIn, mSortSet, mSortSetL, mRevT, mForC, mSeqC, mLcC, pAbs, pMax2, pMin2, pInt1, mDGet, mDPut, mBM, mBM0, pPop, pAppend, pExtend, pSetL, mSub, mDisp, mPs, mPs0, mRevL, mRevLM, pLstOfM, mTupRg, mRg1, mRg2, pPlusM, lstItems, dictOfP, keyP, keysP, val_left, val_mixed, val_draws, put_draws, mLc, mLcM, mLc2, mFor, mSeqI, mRng1, mRng2, mZip, mEnum, mSl, mNoPart, mPart, mSeq, mAsg, mAsg2, mCB, mCons, mNil, mVar, mC, mOp, mUn, pU, mTup, mLst, mRet, mRetN, mLstM, getl, setl, mName, mCall, mCallK, mIf, mIfS, mTest, mAnd, mOr, mNot, mYes, mAndV, mOrV, mNotV, mNext, mNever, mBreak, mCont, mDrop, mChain, mPar, mGTup, mGCons, mGNil, pGcd, pI, pI0, pIx, pTimes, pPlus, pEq, pNe, pLen, pSum, pMaxS, pAll, pAny, pTupOf, pLstOf, pIn, pIsB, pIsi, items_tup, items_lst, items_kl, items_mr, items_tab, items_lot, items_fr, decide_true, decide_false, eqP_int, eqP_bl, eqP_str, eqP_tup2, kit_tt, kit_ii, kit_ib, tyP, mEnd, wipeP, List.map_cons, List.map_nil, List.getElem?_cons_zero, List.getElem?_cons_succ, List.set_cons_zero, List.set_cons_succ, atI_zero, atI_one, if_true, if_false, ite_true, ite_false, Bool.false_eq_true, List.length_cons, List.length_nil, Bool.not_true, Bool.not_false, fdivN, fmodN]
      have hW : 2 ^ w ≤ m1 := by omega
      have hd : ∀ x : Int, DivOk x (n : Nat) := fun x => .inl ⟨by omega, by have := log_lt (x := (n : Int)) (n := 12) (by rw [Int.natAbs_natCast]; omega); omega⟩
      have hmul : Fx.MulOk ((m1 / n : Nat) : Int) (n : Nat) := mulR (by omega) (by omega)
      simp only [← Int.natCast_mul]
      by_cases hr1 : r1 < m1 / n * n
      · rw [decide_eq_true (by omega), if_pos rfl]
        rw [← wntT_zero, ← q4, wntT_acc bs t1 hW hr1] at hQ
        exact ⟨hd _, hmul, by omega, hd _, by decide, by decide, fin_keep hQ⟩
      · rw [decide_eq_false (by omega), if_neg (by decide)]
        have hle := Nat.div_mul_le_self m1 n
        have hlt : m1 - m1 / n * n < n := mod_lt' (by omega)
        refine ⟨hd _, hmul, hmul, hmul, hN _ _ ⟨⟨t1, m1 - m1 / n * n, r1 - m1 / n * n, _, _, by rw [Int.natCast_sub hle, Int.natCast_sub (by omega : m1 / n * n ≤ r1)], by omega, by omega, q3, ?_, ?_⟩, rfl⟩⟩
        · rw [← wntT_rej bs t1 (by omega) n4 hW hr1]; exact q4
        · rw [List.length_append, List.length_singleton]; omega
  · obtain ⟨⟨t1, m1, r1, y7, y8, rfl, q1, q2, q3, q4, q5⟩, rfl⟩ := hI
    rw [List.nil_append, List.length_range] at q5
    omega
abbrev N__law_pick : List Str := ["_law_deck_here", "_law_some"]
theorem sc__law_pick : FnScope N__law_pick ["_law_deck_here", "_law_some"] (defScope s__law_pick) := ⟨rfl, rfl, rfl, by decide +kernel, rfl, by decide +kernel, by decide +kernel⟩
theorem ok__law_pick (B : Blt mg) (h__law_pick : Own K mg "_law_pick" s__law_pick) (k__law_draw : Ok P w K mg base 1 "_law_draw" s__law_draw ["_law_deck_here", "_law_many"] S__law_draw) : Ok P w K mg base 2 "_law_pick" s__law_pick ["_law_deck_here", "_law_some"] S__law_pick := by
  obtain ⟨f_s, fd_s, F_s, g_s⟩ := h__law_pick
  obtain ⟨f__law_draw, fd__law_draw, F__law_draw, g__law_draw, b__law_draw, G__law_draw⟩ := k__law_draw
  refine ⟨f_s, fd_s, F_s, g_s, F_s.binds (fun _ _ _ _ _ _ us hl => match us, hl with | [_, _], _ => rfl), FnG.of F_s sc__law_pick (fun xs μ Q h => by first | exact h.1 | exact h.2.1 | (obtain ⟨⟩ := h)) fun cdv A outer s H hr hgd => ⟨_, _, (pss_one (ps_ret (pe_ix ix_seq (pv 1) (pe_callG (G__law_draw.mono (by decide)) hr hgd (by rfl) g__law_draw F__law_draw.kp b__law_draw (pa_cons (pv 0) (pa_cons (pe_callB cb_len (by rfl) (B "len" (by decide)) (by decide +kernel) (pa_cons (pv 1) pa_nil)) pa_nil))) (fun _ _ => rfl)))), (by (try dsimp only [cxOf]); exact inferInstance), ?_⟩⟩
  intro xs μ Q hS
  obtain ⟨_, x, items, m, rest, rfl, hx, hD, hi, hi2, hQ⟩ := hS
  rw [show startP N__law_pick [.mr 1, x] = [some (.mr 1), some x] from rfl]
  rcases hx with hx | ⟨j, rfl, hj⟩
  · have key : S__law_draw [.mr 1, .int (items.length : Nat)] μ fun y μ2 => match y with | .int i => (match atI items i with | some v => ∃ y μ', Gc μ v μ2 y μ' ∧ Q y μ' | none => False) | _ => False := by
      refine ⟨rfl, _, _, _, rfl, hD, by omega, by omega, fun n μ' h0 h1 hD' => ?_⟩
      obtain ⟨j, rfl⟩ : ∃ j : Nat, n = (j : Int) := ⟨n.toNat, by omega⟩
      have hj : j < items.length := by omega
      simp only [atI_some (List.getElem?_eq_getElem hj)]
      exact fin_keep (hQ _ (List.getElem_mem hj) _ hD')
    cases x <;> simp only [seqP, reduceCtorEq, Option.some.injEq] at hx
    · subst hx
      simp only [mLockEN, mDNewN, mDGet2N, mDPutN, mValsN, pLenN, pSortTX, mDNewT, mZipM, mDc, mLenSetL, mDGetT, mDGet2T, mDInT, mDPutT, mLockX, mLockEX, mKeysX, pLstX, pLenX, pMaxT, pSortT, str_to, str_ot, mPar3, mLockV, mLockE, mItemsC, mKeysC, mDGet2, pIsN, isNonP, pRepLM, mTruD, dkOfP, pPopAt, pIndex, mLstRgM, mTruth, pReprA, pLenD, pLstD, mDNew, pRepL, mLenSetN, mDIn, mSortSet, mSortSetL, mRevT, mForC, mSeqC, mLcC, pAbs, pMax2, pMin2, pInt1, mDGet, mDPut, mBM, mBM0, pPop, pAppend, pExtend, pSetL, mSub, mDisp, mPs, mPs0, mRevL, mRevLM, pLstOfM, mTupRg, mRg1, mRg2, pPlusM, lstItems, dictOfP, keyP, keysP, val_left, val_mixed, val_draws, put_draws, mLc, mLcM, mLc2, mFor, mSeqI, mRng1, mRng2, mZip, mEnum, mSl, mNoPart, mPart, mSeq, mAsg, mAsg2, mCB, mCons, mNil, mVar, mC, mOp, mUn, pU, mTup, mLst, mRet, mRetN, mLstM, getl, setl, mName, mCall, mCallK, mIf, mIfS, mTest, mAnd, mOr, mNot, mYes, mAndV, mOrV, mNotV, mNext, mNever, mBreak, mCont, mDrop, mChain, mPar, mGTup, mGCons, mGNil, pGcd, pI, pI0, pIx, pTimes, pPlus, pEq, pNe, pLen, pSum, pMaxS, pAll, pAny, pTupOf, pLstOf, pIn, pIsB, pIsi, items_tup, items_lst, items_kl, items_mr, items_tab, items_lot, items_fr, decide_true, decide_false, eqP_int, eqP_bl, eqP_str, eqP_tup2, kit_tt, kit_ii, kit_ib, tyP, mEnd, wipeP, List.map_cons, List.map_nil, List.getElem?_cons_zero, List.getElem?_cons_succ, List.set_cons_zero, List.set_cons_succ, atI_zero, atI_one, if_true, if_false, ite_true, ite_false, Bool.false_eq_true, List.length_cons, List.length_nil, Bool.not_true, Bool.not_false]
      exact key
    · subst hx
      simp only [mLockEN, mDNewN, mDGet2N, mDPutN, mValsN, pLenN, pSortTX, mDNewT, mZipM, mDc, mLenSetL, mDGetT, mDGet2T, mDInT, mDPutT, mLockX, mLockEX, mKeysX, pLstX, pLenX, pMaxT, pSortT, str_to, str_ot, mPar3, mLockV, mLockE, mItemsC, mKeysC, mDGet2, pIsN, isNonP, pRepLM, mTruD, dkOfP, pPopAt, pIndex, mLstRgM, mTruth, pReprA, pLenD, pLstD, mDNew, pRepL, mLenSetN, mDIn, mSortSet, mSortSetL, mRevT, mForC, mSeqC, mLcC, pAbs, pMax2, pMin2, pInt1, mDGet, mDPut, mBM, mBM0, pPop, pAppend, pExtend, pSetL, mSub, mDisp, mPs, mPs0, mRevL, mRevLM, pLstOfM, mTupRg, mRg1, mRg2, pPlusM, lstItems, dictOfP, keyP, keysP, val_left, val_mixed, val_draws, put_draws, mLc, mLcM, mLc2, mFor, mSeqI, mRng1, mRng2, mZip, mEnum, mSl, mNoPart, mPart, mSeq, mAsg, mAsg2, mCB, mCons, mNil, mVar, mC, mOp, mUn, pU, mTup, mLst, mRet, mRetN, mLstM, getl, setl, mName, mCall, mCallK, mIf, mIfS, mTest, mAnd, mOr, mNot, mYes, mAndV, mOrV, mNotV, mNext, mNever, mBreak, mCont, mDrop, mChain, mPar, mGTup, mGCons, mGNil, pGcd, pI, pI0, pIx, pTimes, pPlus, pEq, pNe, pLen, pSum, pMaxS, pAll, pAny, pTupOf, pLstOf, pIn, pIsB, pIsi, items_tup, items_lst, items_kl, items_mr, items_tab, items_lot, items_fr, decide_true, decide_false, eqP_int, eqP_bl, eqP_str, eqP_tup2, kit_tt, kit_ii, kit_ib, tyP, mEnd, wipeP, List.map_cons, List.map_nil, List.getElem?_cons_zero, List.getElem?_cons_succ, List.set_cons_zero, List.set_cons_succ, atI_zero, atI_one, if_true, if_false, ite_true, ite_false, Bool.false_eq_true, List.length_cons, List.length_nil, Bool.not_true, Bool.not_false]
      exact key
  · have e1 : ∀ μ', Dk m rest μ' → μ'[j + 2]? = some (.lst items) := fun μ' h => (h.get j).trans hj
    simp only [mLockEN, mDNewN, mDGet2N, mDPutN, mValsN, pLenN, pSortTX, mDNewT, mZipM, mDc, mLenSetL, mDGetT, mDGet2T, mDInT, mDPutT, mLockX, mLockEX, mKeysX, pLstX, pLenX, pMaxT, pSortT, str_to, str_ot, mPar3, mLockV, mLockE, mItemsC, mKeysC, mDGet2, pIsN, isNonP, pRepLM, mTruD, dkOfP, pPopAt, pIndex, mLstRgM, mTruth, pReprA, pLenD, pLstD, mDNew, pRepL, mLenSetN, mDIn, mSortSet, mSortSetL, mRevT, mForC, mSeqC, mLcC, pAbs, pMax2, pMin2, pInt1, mDGet, mDPut, mBM, mBM0, pPop, pAppend, pExtend, pSetL, mSub, mDisp, mPs, mPs0, mRevL, mRevLM, pLstOfM, mTupRg, mRg1, mRg2, pPlusM, lstItems, dictOfP, keyP, keysP, val_left, val_mixed, val_draws, put_draws, mLc, mLcM, mLc2, mFor, mSeqI, mRng1, mRng2, mZip, mEnum, mSl, mNoPart, mPart, mSeq, mAsg, mAsg2, mCB, mCons, mNil, mVar, mC, mOp, mUn, pU, mTup, mLst, mRet, mRetN, mLstM, getl, setl, mName, mCall, mCallK, mIf, mIfS, mTest, mAnd, mOr, mNot, mYes, mAndV, mOrV, mNotV, mNext, mNever, mBreak, mCont, mDrop, mChain, mPar, mGTup, mGCons, mGNil, pGcd, pI, pI0, pIx, pTimes, pPlus, pEq, pNe, pLen, pSum, pMaxS, pAll, pAny, pTupOf, pLstOf, pIn, pIsB, pIsi, items_tup, items_lst, items_kl, items_mr, items_tab, items_lot, items_fr, decide_true, decide_false, eqP_int, eqP_bl, eqP_str, eqP_tup2, kit_tt, kit_ii, kit_ib, tyP, mEnd, wipeP, List.map_cons, List.map_nil, List.getElem?_cons_zero, List.getElem?_cons_succ, List.set_cons_zero, List.set_cons_succ, atI_zero, atI_one, if_true, if_false, ite_true, ite_false, Bool.false_eq_true, List.length_cons, List.length_nil, Bool.not_true, Bool.not_false, e1 μ hD, S__law_draw]
    refine ⟨trivial, _, _, _, rfl, hD, by omega, by omega, fun n μ' h0 h1 hD' => ?_⟩
    obtain ⟨i, rfl⟩ : ∃ i : Nat, n = (i : Int) := ⟨n.toNat, by omega⟩
    have hi : i < items.length := by omega
    simp only [e1 μ' hD', atI_some (List.getElem?_eq_getElem hi)]
    exact fin_keep (hQ _ (List.getElem_mem hi) _ hD')
abbrev N_is_within : List Str := ["thing", "low", "high"]
theorem sc_is_within : FnScope N_is_within ["thing", "low", "high"] (defScope s_is_within) := ⟨rfl, rfl, rfl, by decide +kernel, rfl, by decide +kernel, by decide +kernel⟩
theorem ok_is_within (B : Blt mg) (h_is_within : Own K mg "is_within" s_is_within) (k_is_integer : Ok P w K mg base 1 "is_integer" s_is_integer ["thing"] S_is_integer) : Ok P w K mg base 2 "is_within" s_is_within ["thing", "low", "high"] S_is_within := by
  obtain ⟨f_s, fd_s, F_s, g_s⟩ := h_is_within
  obtain ⟨f_is_integer, fd_is_integer, F_is_integer, g_is_integer, b_is_integer, G_is_integer⟩ := k_is_integer
  refine ⟨f_s, fd_s, F_s, g_s, F_s.binds (fun _ _ _ _ _ _ us hl => match us, hl with | [_, _, _], _ => rfl), FnG.of F_s sc_is_within (fun xs μ Q h => by first | exact h.1 | exact h.2.1 | (obtain ⟨⟩ := h)) fun cdv A outer s H hr hgd => ⟨_, _, (pss_one (ps_ret (pe_and (pe_callG (G_is_integer.mono (by decide)) hr hgd (by rfl) g_is_integer F_is_integer.kp b_is_integer (pa_cons (pv 0) pa_nil)) (pe_one (pe_chain op_le op_le (pv 1) (pv 0) (pv 2)))))), (by (try dsimp only [cxOf]); exact inferInstance), ?_⟩⟩
  intro xs μ Q hS
  obtain ⟨_, i, lo, hi, rfl, hQ⟩ := hS
  rw [show startP N_is_within [.int i, .int lo, .int hi] = [some (.int i), some (.int lo), some (.int hi)] from rfl]
  simp only [mLockEN, mDNewN, mDGet2N, mDPutN, mValsN, pLenN, pSortTX, mDNewT, mZipM, mDc, mLenSetL, mDGetT, mDGet2T, mDInT, mDPutT, mLockX, mLockEX, mKeysX, pLstX, pLenX, pMaxT, pSortT, str_to, str_ot, mPar3, mLockV, mLockE, mItemsC, mKeysC, mDGet2, pIsN, isNonP, pRepLM, mTruD, dkOfP, pPopAt, pIndex, mLstRgM, mTruth, pReprA, pLenD, pLstD, mDNew, pRepL, mLenSetN, mDIn, mSortSet, mSortSetL, mRevT, mForC, mSeqC, mLcC, pAbs, pMax2, pMin2, pInt1, mDGet, mDPut, mBM, mBM0, pPop, pAppend, pExtend, pSetL, mSub, mDisp, mPs, mPs0, mRevL, mRevLM, pLstOfM, mTupRg, mRg1, mRg2, pPlusM, lstItems, dictOfP, keyP, keysP, val_left, val_mixed, val_draws, put_draws, mLc, mLcM, mLc2, mFor, mSeqI, mRng1, mRng2, mZip, mEnum, mSl, mNoPart, mPart, mSeq, mAsg, mAsg2, mCB, mCons, mNil, mVar, mC, mOp, mUn, pU, mTup, mLst, mRet, mRetN, mLstM, getl, setl, mName, mCall, mCallK, mIf, mIfS, mTest, mAnd, mOr, mNot, mYes, mAndV, mOrV, mNotV, mNext, mNever, mBreak, mCont, mDrop, mChain, mPar, mGTup, mGCons, mGNil, pGcd, pI, pI0, pIx, pTimes, pPlus, pEq, pNe, pLen, pSum, pMaxS, pAll, pAny, pTupOf, pLstOf, pIn, pIsB, pIsi, items_tup, items_lst, items_kl, items_mr, items_tab, items_lot, items_fr, decide_true, decide_false, eqP_int, eqP_bl, eqP_str, eqP_tup2, kit_tt, kit_ii, kit_ib, tyP, mEnd, wipeP, List.map_cons, List.map_nil, List.getElem?_cons_zero, List.getElem?_cons_succ, List.set_cons_zero, List.set_cons_succ, atI_zero, atI_one, if_true, if_false, ite_true, ite_false, Bool.false_eq_true, List.length_cons, List.length_nil, Bool.not_true, Bool.not_false, S_is_integer]
  refine ⟨trivial, i, rfl, ?_⟩
  by_cases h : lo ≤ i
  · simp only [h, decide_true, if_true, Bool.true_and] at hQ ⊢
    exact fin_keep hQ
  · simp only [h, decide_false, Bool.false_eq_true, if_false, Bool.false_and] at hQ ⊢
    exact fin_keep hQ
abbrev N__law_row_wanted : List Str := ["_law_w", "_law_wants", "_law_bits_here", "_law_rest", "_law_found", "_law_taken", "_law_n", "_law_told"]
theorem sc__law_row_wanted : FnScope N__law_row_wanted ["_law_w", "_law_wants", "_law_bits_here"] (defScope s__law_row_wanted) := ⟨rfl, rfl, rfl, by decide +kernel, rfl, by decide +kernel, by decide +kernel⟩
theorem ok__law_row_wanted (B : Blt mg) (h__law_row_wanted : Own K mg "_law_row_wanted" s__law_row_wanted) (k__law_wanted : Ok P w K mg base 1 "_law_wanted" s__law_wanted ["_law_w", "_law_rest", "_law_n", "_law_bits_here"] S__law_wanted) : Ok P w K mg base 2 "_law_row_wanted" s__law_row_wanted ["_law_w", "_law_wants", "_law_bits_here"] S__law_row_wanted := by
  obtain ⟨f_s, fd_s, F_s, g_s⟩ := h__law_row_wanted
  obtain ⟨f__law_wanted, fd__law_wanted, F__law_wanted, g__law_wanted, b__law_wanted, G__law_wanted⟩ := k__law_wanted
  refine ⟨f_s, fd_s, F_s, g_s, F_s.binds (fun _ _ _ _ _ _ us hl => match us, hl with | [_, _, _], _ => rfl), FnG.of F_s sc__law_row_wanted (fun xs μ Q h => by first | exact h.1 | exact h.2.1 | (obtain ⟨⟩ := h)) fun cdv A outer s H hr hgd => ⟨_, _, (pss_cons (ps_asg (pe_tup (pa_cons (pe_tup (pa_cons pe_int (pa_cons pe_int pa_nil))) (pa_cons (pe_tup pa_nil) (pa_cons pe_int pa_nil)))) (pg_tup (n := 3) rfl (pgs_cons (pg_name (i := 3) sc__law_row_wanted.nd rfl (Or.inl rfl)) (pgs_cons (pg_name (i := 4) sc__law_row_wanted.nd rfl (Or.inl rfl)) (pgs_cons (pg_name (i := 5) sc__law_row_wanted.nd rfl (Or.inl rfl)) pgs_nil)))))
 (pss_cons (ps_for PassesOwn.never rfl (pi_seq (pv 1)) (pg_name (i := 6) sc__law_row_wanted.nd rfl (Or.inl rfl))
 (pss_cons (ps_set (i := 7) sc__law_row_wanted.nd rfl (Or.inl rfl) (pe_callG (G__law_wanted.mono (by decide)) hr hgd (by rfl) g__law_wanted F__law_wanted.kp b__law_wanted (pa_cons (pv 0) (pa_cons (pv 3) (pa_cons (pv 6) (pa_cons (pe_slice sl_any (pv 2) (po_some (pv 5)) po_none) pa_nil))))))
 (pss_cons (ps_if (pt_cmpR op_isNn (pv 7) pe_non (nomark _))
 (pss_one (ps_ret pe_non))
 pss_nil)
 (pss_one (ps_par3 (i := 4) (j := 3) (l := 5) (by rfl) sc__law_row_wanted.nd rfl rfl rfl (by decide) (by decide) (by decide) rfl rfl rfl (pa_cons (pe_op op_plus (pv 4) (pe_tup (pa_cons (pe_ix ix_seq (pv 7) pe_int (fun _ _ => rfl)) pa_nil))) (pa_cons (pe_ix ix_seq (pv 7) pe_int (fun _ _ => rfl)) (pa_cons (pe_op op_plus (pv 5) (pe_ix ix_seq (pv 7) pe_int (fun _ _ => rfl))) pa_nil))) (by rfl))))))
 (pss_one (ps_ret (pe_tup (pa_cons (pv 4) (pa_cons (pv 3) (pa_cons (pv 5) pa_nil)))))))), (by (try dsimp only [cxOf]); exact inferInstance), ?_⟩⟩
  intro xs μ Q hS
  obtain ⟨_, w, ns, bs, rfl, w1, w2, hn, hl, hb, hbl, hQ⟩ := hS
  rw [show startP N__law_row_wanted [.int w, lotP ns, lotP bs] = [some (.int w), some (lotP ns), some (lotP bs), none, none, none, none, none] from rfl]
  refine stm_of fun R hR => ?_
  simp only [mLockEN, mDNewN, mDGet2N, mDPutN, mValsN, pLenN, pSortTX, mDNewT, mZipM, mDc, mLenSetL, mDGetT, mDGet2T, mDInT, mDPutT, mLockX, mLockEX, mKeysX, pLstX, pLenX, pMaxT, pSortT, str_to, str_ot, mPar3, mLockV, mLockE, mItemsC, mKeysC, mDGet2, pIsN, isNonP, pRepLM, mTruD, dkOfP, pPopAt, pIndex, mLstRgM, mTruth, pReprA, pLenD, pLstD, mDNew, pRepL, mLenSetN, mDIn, mSortSet, mSortSetL, mRevT, mForC, mSeqC, mLcC, pAbs, pMax2, pMin2, pInt1, mDGet, mDPut, mBM, mBM0, pPop, pAppend, pExtend, pSetL, mSub, mDisp, mPs, mPs0, mRevL, mRevLM, pLstOfM, mTupRg, mRg1, mRg2, pPlusM, lstItems, dictOfP, keyP, keysP, val_left, val_mixed, val_draws, put_draws, mLc, mLcM, mLc2, mFor, mSeqI, mRng1, mRng2, mZip, mEnum, mSl, mNoPart, mPart, mSeq, mAsg, mAsg2, mCB, mCons, mNil, mVar, mC, mOp, mUn, pU, mTup, mLst, mRet, mRetN, mLstM, getl, setl, mName, mCall, mCallK, mIf, mIfS, mTest, mAnd, mOr, mNot, mYes, mAndV, mOrV, mNotV, mNext, mNever, mBreak, mCont, mDrop, mChain, mPar, mGTup, mGCons, mGNil, pGcd, pI, pI0, pIx, pTimes, pPlus, pEq, pNe, pLen, pSum, pMaxS, pAll, pAny, pTupOf, pLstOf, pIn, pIsB, pIsi, items_tup, items_lst, items_kl, items_mr, items_tab, items_lot, items_fr, decide_true, decide_false, eqP_int, eqP_bl, eqP_str, eqP_tup2, kit_tt, kit_ii, kit_ib, tyP, mEnd, wipeP, List.map_cons, List.map_nil, List.getElem?_cons_zero, List.getElem?_cons_succ, List.set_cons_zero, List.set_cons_succ, atI_zero, atI_one, if_true, if_false, ite_true, ite_false, Bool.false_eq_true, List.length_cons, List.length_nil, Bool.not_true, Bool.not_false]
  refine ⟨by decide, by decide, by decide, trivial, ?_⟩
  subst hR
  refine stm_of fun R1 hR1 => ?_
  simp only [mLockEN, mDNewN, mDGet2N, mDPutN, mValsN, pLenN, pSortTX, mDNewT, mZipM, mDc, mLenSetL, mDGetT, mDGet2T, mDInT, mDPutT, mLockX, mLockEX, mKeysX, pLstX, pLenX, pMaxT, pSortT, str_to, str_ot, mPar3, mLockV, mLockE, mItemsC, mKeysC, mDGet2, pIsN, isNonP, pRepLM, mTruD, dkOfP, pPopAt, pIndex, mLstRgM, mTruth, pReprA, pLenD, pLstD, mDNew, pRepL, mLenSetN, mDIn, mSortSet, mSortSetL, mRevT, mForC, mSeqC, mLcC, pAbs, pMax2, pMin2, pInt1, mDGet, mDPut, mBM, mBM0, pPop, pAppend, pExtend, pSetL, mSub, mDisp, mPs, mPs0, mRevL, mRevLM, pLstOfM, mTupRg, mRg1, mRg2, pPlusM, lstItems, dictOfP, keyP, keysP, val_left, val_mixed, val_draws, put_draws, mLc, mLcM, mLc2, mFor, mSeqI, mRng1, mRng2, mZip, mEnum, mSl, mNoPart, mPart, mAsg, mAsg2, mCB, mCons, mNil, mVar, mC, mOp, mUn, pU, mTup, mLst, mRet, mRetN, mLstM, getl, setl, mName, mCall, mCallK, mIf, mIfS, mTest, mAnd, mOr, mNot, mYes, mAndV, mOrV, mNotV, mNext, mNever, mBreak, mCont, mDrop, mChain, mPar, mGTup, mGCons, mGNil, pGcd, pI, pI0, pIx, pTimes, pPlus, pEq, pNe, pLen, pSum, pMaxS, pAll, pAny, pTupOf, pLstOf, pIn, pIsB, pIsi, items_tup, items_lst, items_kl, items_mr, items_tab, items_lot, items_fr, decide_true, decide_false, eqP_int, eqP_bl, eqP_str, eqP_tup2, kit_tt, kit_ii, kit_ib, tyP, mEnd, wipeP, List.map_cons, List.map_nil, List.getElem?_cons_zero, List.getElem?_cons_succ, List.set_cons_zero, List.set_cons_succ, atI_zero, atI_one, if_true, if_false, ite_true, ite_false, Bool.false_eq_true, List.length_cons, List.length_nil, Bool.not_true, Bool.not_false, lotP]
  have p0 := Nat.two_pow_pos w
  have p2 := pw_bnd w2
  refine for_inv (enc := fun (n : Nat) => PV.int n) (fun pre ρ μ' => (∃ (x : List Nat × Nat × Nat × Nat) (y6 y7 : Option PV), ρ = [some (.int (w : Nat)), some (.tup (ns.map fun (n : Nat) => PV.int n)), some (.tup (bs.map fun (n : Nat) => PV.int n)), some (restP x.2.1 x.2.2.1), some (lotP x.1), some (.int (x.2.2.2 : Nat)), y6, y7] ∧ rww (2 ^ w) pre bs 1 0 = some x) ∧ μ' = μ) (done := []) ⟨⟨([], 1, 0, 0), _, _, rfl, rfl⟩, rfl⟩ (fun pre n post ρ μ' e hI N hN => ?_) fun ρ μ' hI => ?_
  · obtain ⟨⟨x, y6, y7, rfl, hx⟩, rfl⟩ := hI
    have hns : ns = pre ++ n :: post := e
    have hpre : ∀ k ∈ pre, 2 ≤ k ∧ k ≤ 64 ∧ k ≤ 2 ^ w := fun k hk => hn k (by rw [hns]; exact List.mem_append_left _ hk)
    obtain ⟨n2, n64, nW⟩ := hn n (by rw [hns]; simp)
    obtain ⟨a1, a2, a3, a4, a5⟩ := rww_ok hpre hb (by decide) (by omega) hx
    have hpl : pre.length ≤ 11 := by have := congrArg List.length hns; simp at this; omega
    have hs := rww_snoc (W := 2 ^ w) n (ns := pre) (bs := bs) (m := 1) (r := 0)
    rw [hx] at hs
    simp only at hs
    refine stm_of fun R2 hR2 => ?_
    simp only [mLockEN, mDNewN, mDGet2N, mDPutN, mValsN, pLenN, pSortTX, mDNewT, mZipM, mDc, mLenSetL, mDGetT, mDGet2T, mDInT, mDPutT, mLockX, mLockEX, mKeysX, pLstX, pLenX, pMaxT, pSortT, str_to, str_ot, mPar3, mLockV, mLockE, mItemsC, mKeysC, mDGet2, pIsN, isNonP, pRepLM, mTruD, dkOfP, pPopAt, pIndex, mLstRgM, mTruth, pReprA, pLenD, pLstD, mDNew, pRepL, mLenSetN, mDIn, mSortSet, mSortSetL, mRevT, mForC, mSeqC, mLcC, pAbs, pMax2, pMin2, pInt1, mDGet, mDPut, mBM, mBM0, pPop, pAppend, pExtend, pSetL, mSub, mDisp, mPs, mPs0, mRevL, mRevLM, pLstOfM, mTupRg, mRg1, mRg2, pPlusM, lstItems, dictOfP, keyP, keysP, val_left, val_mixed, val_draws, put_draws, mLc, mLcM, mLc2, mFor, mSeqI, mRng1, mRng2, mZip, mEnum, mSl, mNoPart, mPart, mSeq, mAsg, mAsg2, mCB, mCons, mNil, mVar, mC, mOp, mUn, pU, mTup, mLst, mRet, mRetN, mLstM, getl, setl, mName, mCall, mCallK, mIf, mIfS, mTest, mAnd, mOr, mNot, mYes, mAndV, mOrV, mNotV, mNext, mNever, mBreak, mCont, mDrop, mChain, mPar, mGTup, mGCons, mGNil, pGcd, pI, pI0, pIx, pTimes, pPlus, pEq, pNe, pLen, pSum, pMaxS, pAll, pAny, pTupOf, pLstOf, pIn, pIsB, pIsi, items_tup, items_lst, items_kl, items_mr, items_tab, items_lot, items_fr, decide_true, decide_false, eqP_int, eqP_bl, eqP_str, eqP_tup2, kit_tt, kit_ii, kit_ib, tyP, mEnd, wipeP, List.map_cons, List.map_nil, List.getElem?_cons_zero, List.getElem?_cons_succ, List.set_cons_zero, List.set_cons_succ, atI_zero, atI_one, if_true, if_false, ite_true, ite_false, Bool.false_eq_true, List.length_cons, List.length_nil, Bool.not_true, Bool.not_false, S__law_wanted]
    rw [show cutP (bs.map fun (n : Nat) => PV.int n) (some ((x.2.2.2 : Nat) : Int)) none = (bs.drop x.2.2.2).map fun (n : Nat) => PV.int n by rw [List.map_drop]; exact cut_from _ _]
    refine ⟨trivial, w, x.2.1, x.2.2.1, n, bs.drop x.2.2.2, rfl, w1, w2, n2, n64, nW, fun b hb' => hb b (List.mem_of_mem_drop hb'), by rw [List.length_drop]; omega, a1, a2, ?_⟩
    cases e9 : wnt (2 ^ w) n (bs.drop x.2.2.2) x.2.1 x.2.2.1 with
    | none =>
      rw [e9] at hs
      subst hR2
      simp only [mLockEN, mDNewN, mDGet2N, mDPutN, mValsN, pLenN, pSortTX, mDNewT, mZipM, mDc, mLenSetL, mDGetT, mDGet2T, mDInT, mDPutT, mLockX, mLockEX, mKeysX, pLstX, pLenX, pMaxT, pSortT, str_to, str_ot, mPar3, mLockV, mLockE, mItemsC, mKeysC, mDGet2, pIsN, isNonP, pRepLM, mTruD, dkOfP, pPopAt, pIndex, mLstRgM, mTruth, pReprA, pLenD, pLstD, mDNew, pRepL, mLenSetN, mDIn, mSortSet, mSortSetL, mRevT, mForC, mSeqC, mLcC, pAbs, pMax2, pMin2, pInt1, mDGet, mDPut, mBM, mBM0, pPop, pAppend, pExtend, pSetL, mSub, mDisp, mPs, mPs0, mRevL, mRevLM, pLstOfM, mTupRg, mRg1, mRg2, pPlusM, lstItems, dictOfP, keyP, keysP, val_left, val_mixed, val_draws, put_draws, mLc, mLcM, mLc2, mFor, mSeqI, mRng1, mRng2, mZip, mEnum, mSl, mNoPart, mPart, mSeq, mAsg, mAsg2, mCB, mCons, mNil, mVar, mC, mOp, mUn, pU, mTup, mLst, mRet, mRetN, mLstM, getl, setl, mName, mCall, mCallK, mIf, mIfS, mTest, mAnd, mOr, mNot, mYes, mAndV, mOrV, mNotV, mNext, mNever, mBreak, mCont, mDrop, mChain, mPar, mGTup, mGCons, mGNil, pGcd, pI, pI0, pIx, pTimes, pPlus, pEq, pNe, pLen, pSum, pMaxS, pAll, pAny, pTupOf, pLstOf, pIn, pIsB, pIsi, items_tup, items_lst, items_kl, items_mr, items_tab, items_lot, items_fr, decide_true, decide_false, eqP_int, eqP_bl, eqP_str, eqP_tup2, kit_tt, kit_ii, kit_ib, tyP, mEnd, wipeP, List.map_cons, List.map_nil, List.getElem?_cons_zero, List.getElem?_cons_succ, List.set_cons_zero, List.set_cons_succ, atI_zero, atI_one, if_true, if_false, ite_true, ite_false, Bool.false_eq_true, List.length_cons, List.length_nil, Bool.not_true, Bool.not_false, wntP]
      have hz : rww (2 ^ w) ns bs 1 0 = none := by rw [hns, show pre ++ n :: post = (pre ++ [n]) ++ post by simp]; exact rww_none post hs
      rw [hz] at hQ
      exact fin_keep hQ
    | some y =>
      rw [e9] at hs
      subst hR2
      simp only [mLockEN, mDNewN, mDGet2N, mDPutN, mValsN, pLenN, pSortTX, mDNewT, mZipM, mDc, mLenSetL, mDGetT, mDGet2T, mDInT, mDPutT, mLockX, mLockEX, mKeysX, pLstX, pLenX, pMaxT, pSortT, str_to, str_ot, mPar3, mLockV, mLockE, mItemsC, mKeysC, mDGet2, pIsN, isNonP, pRepLM, mTruD, dkOfP, pPopAt, pIndex, mLstRgM, mTruth, pReprA, pLenD, pLstD, mDNew, pRepL, mLenSetN, mDIn, mSortSet, mSortSetL, mRevT, mForC, mSeqC, mLcC, pAbs, pMax2, pMin2, pInt1, mDGet, mDPut, mBM, mBM0, pPop, pAppend, pExtend, pSetL, mSub, mDisp, mPs, mPs0, mRevL, mRevLM, pLstOfM, mTupRg, mRg1, mRg2, pPlusM, lstItems, dictOfP, keyP, keysP, val_left, val_mixed, val_draws, put_draws, mLc, mLcM, mLc2, mFor, mSeqI, mRng1, mRng2, mZip, mEnum, mSl, mNoPart, mPart, mSeq, mAsg, mAsg2, mCB, mCons, mNil, mVar, mC, mOp, mUn, pU, mTup, mLst, mRet, mRetN, mLstM, getl, setl, mName, mCall, mCallK, mIf, mIfS, mTest, mAnd, mOr, mNot, mYes, mAndV, mOrV, mNotV, mNext, mNever, mBreak, mCont, mDrop, mChain, mPar, mGTup, mGCons, mGNil, pGcd, pI, pI0, pIx, pTimes, pPlus, pEq, pNe, pLen, pSum, pMaxS, pAll, pAny, pTupOf, pLstOf, pIn, pIsB, pIsi, items_tup, items_lst, items_kl, items_mr, items_tab, items_lot, items_fr, decide_true, decide_false, eqP_int, eqP_bl, eqP_str, eqP_tup2, kit_tt, kit_ii, kit_ib, tyP, mEnd, wipeP, List.map_cons, List.map_nil, List.getElem?_cons_zero, List.getElem?_cons_succ, List.set_cons_zero, List.set_cons_succ, atI_zero, atI_one, if_true, if_false, ite_true, ite_false, Bool.false_eq_true, List.length_cons, List.length_nil, Bool.not_true, Bool.not_false, wntP, lotP, atI_two]
      refine ⟨by decide, by rw [List.length_map]; unfold lim; omega, ?_⟩
      rw [lot_snoc, ← Int.natCast_add]
      exact hN _ _ ⟨⟨_, _, _, rfl, hs⟩, rfl⟩
  · obtain ⟨⟨x, y6, y7, rfl, hx⟩, rfl⟩ := hI
    rw [List.nil_append] at hx
    show R1 _ _
    subst hR1
    simp only [mLockEN, mDNewN, mDGet2N, mDPutN, mValsN, pLenN, pSortTX, mDNewT, mZipM, mDc, mLenSetL, mDGetT, mDGet2T, mDInT, mDPutT, mLockX, mLockEX, mKeysX, pLstX, pLenX, pMaxT, pSortT, str_to, str_ot, mPar3, mLockV, mLockE, mItemsC, mKeysC, mDGet2, pIsN, isNonP, pRepLM, mTruD, dkOfP, pPopAt, pIndex, mLstRgM, mTruth, pReprA, pLenD, pLstD, mDNew, pRepL, mLenSetN, mDIn, mSortSet, mSortSetL, mRevT, mForC, mSeqC, mLcC, pAbs, pMax2, pMin2, pInt1, mDGet, mDPut, mBM, mBM0, pPop, pAppend, pExtend, pSetL, mSub, mDisp, mPs, mPs0, mRevL, mRevLM, pLstOfM, mTupRg, mRg1, mRg2, pPlusM, lstItems, dictOfP, keyP, keysP, val_left, val_mixed, val_draws, put_draws, mLc, mLcM, mLc2, mFor, mSeqI, mRng1, mRng2, mZip, mEnum, mSl, mNoPart, mPart, mSeq, mAsg, mAsg2, mCB, mCons, mNil, mVar, mC, mOp, mUn, pU, mTup, mLst, mRet, mRetN, mLstM, getl, setl, mName, mCall, mCallK, mIf, mIfS, mTest, mAnd, mOr, mNot, mYes, mAndV, mOrV, mNotV, mNext, mNever, mBreak, mCont, mDrop, mChain, mPar, mGTup, mGCons, mGNil, pGcd, pI, pI0, pIx, pTimes, pPlus, pEq, pNe, pLen, pSum, pMaxS, pAll, pAny, pTupOf, pLstOf, pIn, pIsB, pIsi, items_tup, items_lst, items_kl, items_mr, items_tab, items_lot, items_fr, decide_true, decide_false, eqP_int, eqP_bl, eqP_str, eqP_tup2, kit_tt, kit_ii, kit_ib, tyP, mEnd, wipeP, List.map_cons, List.map_nil, List.getElem?_cons_zero, List.getElem?_cons_succ, List.set_cons_zero, List.set_cons_succ, atI_zero, atI_one, if_true, if_false, ite_true, ite_false, Bool.false_eq_true, List.length_cons, List.length_nil, Bool.not_true, Bool.not_false]
    rw [hx] at hQ
    exact ⟨by decide, fin_keep hQ⟩
abbrev N__law_width : List Str := ["_law_deck_here", "_law_most"]
theorem sc__law_width : FnScope N__law_width ["_law_deck_here", "_law_most"] (defScope s__law_width) := ⟨rfl, rfl, rfl, by decide +kernel, rfl, by decide +kernel, by decide +kernel⟩
theorem ok__law_width (B : Blt mg) (h__law_width : Own K mg "_law_width" s__law_width) (k__law_draw : Ok P w K mg base 1 "_law_draw" s__law_draw ["_law_deck_here", "_law_many"] S__law_draw) : Ok P w K mg base 2 "_law_width" s__law_width ["_law_deck_here", "_law_most"] S__law_width := by
  obtain ⟨f_s, fd_s, F_s, g_s⟩ := h__law_width
  obtain ⟨f__law_draw, fd__law_draw, F__law_draw, g__law_draw, b__law_draw, G__law_draw⟩ := k__law_draw
  refine ⟨f_s, fd_s, F_s, g_s, F_s.binds (fun _ _ _ _ _ _ us hl => match us, hl with | [_, _], _ => rfl), FnG.of F_s sc__law_width (fun xs μ Q h => by first | exact h.1 | exact h.2.1 | (obtain ⟨⟩ := h)) fun cdv A outer s H hr hgd => ⟨_, _, (pss_one (ps_ret (pe_op op_plus pe_int (pe_callG (G__law_draw.mono (by decide)) hr hgd (by rfl) g__law_draw F__law_draw.kp b__law_draw (pa_cons (pv 0) (pa_cons (pv 1) pa_nil)))))), (by (try dsimp only [cxOf]); exact inferInstance), ?_⟩⟩
  intro xs μ Q hS
  obtain ⟨_, most, m, rest, rfl, hD, h0, h1, hQ⟩ := hS
  rw [show startP N__law_width [.mr 1, .int most] = [some (.mr 1), some (.int most)] from rfl]
  simp only [mLockEN, mDNewN, mDGet2N, mDPutN, mValsN, pLenN, pSortTX, mDNewT, mZipM, mDc, mLenSetL, mDGetT, mDGet2T, mDInT, mDPutT, mLockX, mLockEX, mKeysX, pLstX, pLenX, pMaxT, pSortT, str_to, str_ot, mPar3, mLockV, mLockE, mItemsC, mKeysC, mDGet2, pIsN, isNonP, pRepLM, mTruD, dkOfP, pPopAt, pIndex, mLstRgM, mTruth, pReprA, pLenD, pLstD, mDNew, pRepL, mLenSetN, mDIn, mSortSet, mSortSetL, mRevT, mForC, mSeqC, mLcC, pAbs, pMax2, pMin2, pInt1, mDGet, mDPut, mBM, mBM0, pPop, pAppend, pExtend, pSetL, mSub, mDisp, mPs, mPs0, mRevL, mRevLM, pLstOfM, mTupRg, mRg1, mRg2, pPlusM, lstItems, dictOfP, keyP, keysP, val_left, val_mixed, val_draws, put_draws, mLc, mLcM, mLc2, mFor, mSeqI, mRng1, mRng2, mZip, mEnum, mSl, mNoPart, mPart, mSeq, mAsg, mAsg2, mCB, mCons, mNil, mVar, mC, mOp, mUn, pU, mTup, mLst, mRet, mRetN, mLstM, getl, setl, mName, mCall, mCallK, mIf, mIfS, mTest, mAnd, mOr, mNot, mYes, mAndV, mOrV, mNotV, mNext, mNever, mBreak, mCont, mDrop, mChain, mPar, mGTup, mGCons, mGNil, pGcd, pI, pI0, pIx, pTimes, pPlus, pEq, pNe, pLen, pSum, pMaxS, pAll, pAny, pTupOf, pLstOf, pIn, pIsB, pIsi, items_tup, items_lst, items_kl, items_mr, items_tab, items_lot, items_fr, decide_true, decide_false, eqP_int, eqP_bl, eqP_str, eqP_tup2, kit_tt, kit_ii, kit_ib, tyP, mEnd, wipeP, List.map_cons, List.map_nil, List.getElem?_cons_zero, List.getElem?_cons_succ, List.set_cons_zero, List.set_cons_succ, atI_zero, atI_one, if_true, if_false, ite_true, ite_false, Bool.false_eq_true, List.length_cons, List.length_nil, Bool.not_true, Bool.not_false, S__law_draw]
  refine ⟨trivial, most, m, rest, rfl, hD, h0, by omega, fun z μ1 z0 z1 D1 => ?_⟩
  obtain ⟨k, rfl⟩ : ∃ k : Nat, z = (k : Int) := ⟨z.toNat, by omega⟩
  have := hQ (k + 1) μ1 (by omega) (by omega) D1
  rw [show ((k + 1 : Nat) : Int) = 1 + (k : Int) by omega] at this
  exact fin_keep this
abbrev N__law_bits : List Str := ["_law_deck_here", "_law_many", "_law_turn"]
theorem sc__law_bits : FnScope N__law_bits ["_law_deck_here", "_law_many"] (defScope s__law_bits) := ⟨rfl, rfl, rfl, by decide +kernel, rfl, by decide +kernel, by decide +kernel⟩
theorem ok__law_bits (B : Blt mg) (h__law_bits : Own K mg "_law_bits" s__law_bits) (k__law_draw : Ok P w K mg base 1 "_law_draw" s__law_draw ["_law_deck_here", "_law_many"] S__law_draw) : Ok P w K mg base 2 "_law_bits" s__law_bits ["_law_deck_here", "_law_many"] S__law_bits := by
  obtain ⟨f_s, fd_s, F_s, g_s⟩ := h__law_bits
  obtain ⟨f__law_draw, fd__law_draw, F__law_draw, g__law_draw, b__law_draw, G__law_draw⟩ := k__law_draw
  refine ⟨f_s, fd_s, F_s, g_s, F_s.binds (fun _ _ _ _ _ _ us hl => match us, hl with | [_, _], _ => rfl), FnG.of F_s sc__law_bits (fun xs μ Q h => by first | exact h.1 | exact h.2.1 | (obtain ⟨⟩ := h)) fun cdv A outer s H hr hgd => ⟨_, _, (pss_one (ps_ret (pe_callTy cb_tup (by rfl) (B "tuple" (by decide)) (by decide +kernel) (pa_cons (pe_lc (own := [("_law_turn", 2)]) (by rfl) sc__law_bits.nd (pi_range1 (by rfl) (B "range" (by decide)) (pa_cons (pv 1) pa_nil)) (blkOk_by (own := [("_law_turn", 2)]) (N := N__law_bits) (sc := defScope s__law_bits) (by decide +kernel)) (fun _ _ _ _ _ => (pg_name (i := 2) sc__law_bits.nd rfl (Or.inl rfl))) (fun _ _ _ _ _ => pts_nil) (fun _ _ _ _ _ => (pek_call K rfl (G__law_draw.mono (by decide)) hr hgd (by rfl) g__law_draw F__law_draw.kp b__law_draw (pa_cons (pv 0) (pa_cons pe_int pa_nil))))) pa_nil)))), (by (try dsimp only [cxOf]); exact inferInstance), ?_⟩⟩
  intro xs μ Q hS
  obtain ⟨_, n, m, rest, rfl, hD, hn, hQ⟩ := hS
  rw [show startP N__law_bits [.mr 1, .int n] = [some (.mr 1), some (.int n), none] from rfl]
  simp only [mLockEN, mDNewN, mDGet2N, mDPutN, mValsN, pLenN, pSortTX, mDNewT, mZipM, mDc, mLenSetL, mDGetT, mDGet2T, mDInT, mDPutT, mLockX, mLockEX, mKeysX, pLstX, pLenX, pMaxT, pSortT, str_to, str_ot, mPar3, mLockV, mLockE, mItemsC, mKeysC, mDGet2, pIsN, isNonP, pRepLM, mTruD, dkOfP, pPopAt, pIndex, mLstRgM, mTruth, pReprA, pLenD, pLstD, mDNew, pRepL, mLenSetN, mDIn, mSortSet, mSortSetL, mRevT, mForC, mSeqC, mLcC, pAbs, pMax2, pMin2, pInt1, mDGet, mDPut, mBM, mBM0, pPop, pAppend, pExtend, pSetL, mSub, mDisp, mPs, mPs0, mRevL, mRevLM, pLstOfM, mTupRg, mRg1, mRg2, pPlusM, lstItems, dictOfP, keyP, keysP, val_left, val_mixed, val_draws, put_draws, mLc, mLcM, mLc2, mFor, mSeqI, mRng1, mRng2, mZip, mEnum, mSl, mNoPart, mPart, mSeq, mAsg, mAsg2, mCB, mCons, mNil, mVar, mC, mOp, mUn, pU, mTup, mLst, mRet, mRetN, mLstM, getl, setl, mName, mCall, mCallK, mIf, mIfS, mTest, mAnd, mOr, mNot, mYes, mAndV, mOrV, mNotV, mNext, mNever, mBreak, mCont, mDrop, mChain, mPar, mGTup, mGCons, mGNil, pGcd, pI, pI0, pIx, pTimes, pPlus, pEq, pNe, pLen, pSum, pMaxS, pAll, pAny, pTupOf, pLstOf, pIn, pIsB, pIsi, items_tup, items_lst, items_kl, items_mr, items_tab, items_lot, items_fr, decide_true, decide_false, eqP_int, eqP_bl, eqP_str, eqP_tup2, kit_tt, kit_ii, kit_ib, tyP, mEnd, wipeP, List.map_cons, List.map_nil, List.getElem?_cons_zero, List.getElem?_cons_succ, List.set_cons_zero, List.set_cons_succ, atI_zero, atI_one, if_true, if_false, ite_true, ite_false, Bool.false_eq_true, List.length_cons, List.length_nil, Bool.not_true, Bool.not_false, S__law_draw]
  rw [Int.toNat_natCast, rangeP_eq]
  refine ⟨by decide, ⟨by omega, by omega⟩, by rw [List.length_map, List.length_range]; unfold lim; omega, lc_any (fun pre acc μ' => Dk m rest μ' ∧ ∃ ns : List Nat, acc = (ns.map fun (i : Nat) => PV.int i) ∧ ns.length = pre.length ∧ ∀ i ∈ ns, i < 2) (done := []) ⟨hD, [], rfl, rfl, by simp⟩ (fun pre a post acc μ' e hI N hN => ?_) fun acc μ' hI => ?_⟩
  · obtain ⟨hD', ns, rfl, hp, hlt⟩ := hI
    simp only [mLockEN, mDNewN, mDGet2N, mDPutN, mValsN, pLenN, pSortTX, mDNewT, mZipM, mDc, mLenSetL, mDGetT, mDGet2T, mDInT, mDPutT, mLockX, mLockEX, mKeysX, pLstX, pLenX, pMaxT, pSortT, str_to, str_ot, mPar3, mLockV, mLockE, mItemsC, mKeysC, mDGet2, pIsN, isNonP, pRepLM, mTruD, dkOfP, pPopAt, pIndex, mLstRgM, mTruth, pReprA, pLenD, pLstD, mDNew, pRepL, mLenSetN, mDIn, mSortSet, mSortSetL, mRevT, mForC, mSeqC, mLcC, pAbs, pMax2, pMin2, pInt1, mDGet, mDPut, mBM, mBM0, pPop, pAppend, pExtend, pSetL, mSub, mDisp, mPs, mPs0, mRevL, mRevLM, pLstOfM, mTupRg, mRg1, mRg2, pPlusM, lstItems, dictOfP, keyP, keysP, val_left, val_mixed, val_draws, put_draws, mLc, mLcM, mLc2, mFor, mSeqI, mRng1, mRng2, mZip, mEnum, mSl, mNoPart, mPart, mSeq, mAsg, mAsg2, mCB, mCons, mNil, mVar, mC, mOp, mUn, pU, mTup, mLst, mRet, mRetN, mLstM, getl, setl, mName, mCall, mCallK, mIf, mIfS, mTest, mAnd, mOr, mNot, mYes, mAndV, mOrV, mNotV, mNext, mNever, mBreak, mCont, mDrop, mChain, mPar, mGTup, mGCons, mGNil, pGcd, pI, pI0, pIx, pTimes, pPlus, pEq, pNe, pLen, pSum, pMaxS, pAll, pAny, pTupOf, pLstOf, pIn, pIsB, pIsi, items_tup, items_lst, items_kl, items_mr, items_tab, items_lot, items_fr, decide_true, decide_false, eqP_int, eqP_bl, eqP_str, eqP_tup2, kit_tt, kit_ii, kit_ib, tyP, mEnd, wipeP, List.map_cons, List.map_nil, List.getElem?_cons_zero, List.getElem?_cons_succ, List.set_cons_zero, List.set_cons_succ, atI_zero, atI_one, if_true, if_false, ite_true, ite_false, Bool.false_eq_true, List.length_cons, List.length_nil, Bool.not_true, Bool.not_false, S__law_draw]
    refine ⟨trivial, 2, m, rest, rfl, hD', by decide, by decide, fun z μ2 h0 h1 hD2 => ?_⟩
    obtain ⟨j, rfl⟩ : ∃ j : Nat, z = (j : Int) := ⟨z.toNat, by omega⟩
    refine hN _ _ ⟨hD2, ns ++ [j], by rw [List.map_append]; rfl, by rw [List.length_append, List.length_append, hp]; rfl, fun i hi => ?_⟩
    rcases List.mem_append.mp hi with hi | hi
    · exact hlt i hi
    · rw [List.mem_singleton.mp hi]; omega
  · obtain ⟨hD', ns, rfl, hp, hlt⟩ := hI
    refine fin_keep (hQ ns _ hlt ?_ hD')
    simp at hp
    omega
abbrev N__law_want : List Str := ["_law_deck_here", "_law_w", "_law_most"]
theorem sc__law_want : FnScope N__law_want ["_law_deck_here", "_law_w"] (defScope s__law_want) := ⟨rfl, rfl, rfl, by decide +kernel, rfl, by decide +kernel, by decide +kernel⟩
theorem ok__law_want (B : Blt mg) (h__law_want : Own K mg "_law_want" s__law_want) (k__law_draw : Ok P w K mg base 1 "_law_draw" s__law_draw ["_law_deck_here", "_law_many"] S__law_draw) : Ok P w K mg base 2 "_law_want" s__law_want ["_law_deck_here", "_law_w"] S__law_want := by
  obtain ⟨f_s, fd_s, F_s, g_s⟩ := h__law_want
  obtain ⟨f__law_draw, fd__law_draw, F__law_draw, g__law_draw, b__law_draw, G__law_draw⟩ := k__law_draw
  refine ⟨f_s, fd_s, F_s, g_s, F_s.binds (fun _ _ _ _ _ _ us hl => match us, hl with | [_, _], _ => rfl), FnG.of F_s sc__law_want (fun xs μ Q h => by first | exact h.1 | exact h.2.1 | (obtain ⟨⟩ := h)) fun cdv A outer s H hr hgd => ⟨_, _, (pss_cons (ps_set (i := 2) sc__law_want.nd rfl (Or.inl rfl) (pe_callB (cb_min2 rfl) (by rfl) (B "min" (by decide)) (by decide +kernel) (pa_cons pe_int (pa_cons (pe_op op_shlW pe_int (pv 1)) pa_nil))))
 (pss_one (ps_ret (pe_ifExp (pt_cmpR (op_eqX hr.units) (pe_callG (G__law_draw.mono (by decide)) hr hgd (by rfl) g__law_draw F__law_draw.kp b__law_draw (pa_cons (pv 0) (pa_cons pe_int pa_nil))) pe_int (nomark _)) (pe_callB (cb_min2 rfl) (by rfl) (B "min" (by decide)) (by decide +kernel) (pa_cons (pv 2) (pa_cons (pe_op op_plus pe_int (pe_callG (G__law_draw.mono (by decide)) hr hgd (by rfl) g__law_draw F__law_draw.kp b__law_draw (pa_cons (pv 0) (pa_cons (pe_op op_sub (pv 2) pe_int) pa_nil)))) pa_nil))) (pe_callB (cb_min2 rfl) (by rfl) (B "min" (by decide)) (by decide +kernel) (pa_cons (pv 2) (pa_cons (pe_op op_plus pe_int (pe_callG (G__law_draw.mono (by decide)) hr hgd (by rfl) g__law_draw F__law_draw.kp b__law_draw (pa_cons (pv 0) (pa_cons pe_int pa_nil)))) pa_nil))))))), (by (try dsimp only [cxOf]); exact inferInstance), ?_⟩⟩
  intro xs μ Q hS
  obtain ⟨_, w, m, rest, rfl, hD, h0, h1, hQ⟩ := hS
  rw [show startP N__law_want [.mr 1, .int w] = [some (.mr 1), some (.int w), none] from rfl]
  simp only [mLockEN, mDNewN, mDGet2N, mDPutN, mValsN, pLenN, pSortTX, mDNewT, mZipM, mDc, mLenSetL, mDGetT, mDGet2T, mDInT, mDPutT, mLockX, mLockEX, mKeysX, pLstX, pLenX, pMaxT, pSortT, str_to, str_ot, mPar3, mLockV, mLockE, mItemsC, mKeysC, mDGet2, pIsN, isNonP, pRepLM, mTruD, dkOfP, pPopAt, pIndex, mLstRgM, mTruth, pReprA, pLenD, pLstD, mDNew, pRepL, mLenSetN, mDIn, mSortSet, mSortSetL, mRevT, mForC, mSeqC, mLcC, pAbs, pMax2, pMin2, pInt1, mDGet, mDPut, mBM, mBM0, pPop, pAppend, pExtend, pSetL, mSub, mDisp, mPs, mPs0, mRevL, mRevLM, pLstOfM, mTupRg, mRg1, mRg2, pPlusM, lstItems, dictOfP, keyP, keysP, val_left, val_mixed, val_draws, put_draws, mLc, mLcM, mLc2, mFor, mSeqI, mRng1, mRng2, mZip, mEnum, mSl, mNoPart, mPart, mSeq, mAsg, mAsg2, mCB, mCons, mNil, mVar, mC, mOp, mUn, pU, mTup, mLst, mRet, mRetN, mLstM, getl, setl, mName, mCall, mCallK, mIf, mIfS, mTest, mAnd, mOr, mNot, mYes, mAndV, mOrV, mNotV, mNext, mNever, mBreak, mCont, mDrop, mChain, mPar, mGTup, mGCons, mGNil, pGcd, pI, pI0, pIx, pTimes, pPlus, pEq, pNe, pLen, pSum, pMaxS, pAll, pAny, pTupOf, pLstOf, pIn, pIsB, pIsi, items_tup, items_lst, items_kl, items_mr, items_tab, items_lot, items_fr, decide_true, decide_false, eqP_int, eqP_bl, eqP_str, eqP_tup2, kit_tt, kit_ii, kit_ib, tyP, mEnd, wipeP, List.map_cons, List.map_nil, List.getElem?_cons_zero, List.getElem?_cons_succ, List.set_cons_zero, List.set_cons_succ, atI_zero, atI_one, if_true, if_false, ite_true, ite_false, Bool.false_eq_true, List.length_cons, List.length_nil, Bool.not_true, Bool.not_false, S__law_draw]
  have p2 := pw_bnd h1
  have p1 : 2 ≤ 2 ^ w := by have := Nat.pow_le_pow_right (n := 2) (by decide) h0; simpa using this
  simp only [shl1w]
  have hsh : CShl 1 (w : Nat) := shl_ok (n := 1) (by decide) (by omega)
  generalize 2 ^ w = W at *
  obtain ⟨M, hM, m1, m2, m3⟩ : ∃ M : Int, (if ((W : Nat) : Int) < 64 then ((W : Nat) : Int) else 64) = M ∧ 2 ≤ M ∧ M ≤ 64 ∧ M ≤ W := by
    split
    · exact ⟨_, rfl, by omega, by omega, by omega⟩
    · exact ⟨_, rfl, by omega, by omega, by omega⟩
  simp only [hM]
  refine ⟨hsh, trivial, 2, m, rest, rfl, hD, by decide, by decide, fun z μ1 z0 z1 D1 => ?_⟩
  split
  · refine ⟨trivial, M - 1, m, rest, rfl, D1, by omega, by omega, fun y μ2 y0 y1 D2 => ?_⟩
    obtain ⟨n, e, e1, e2⟩ := minM_nat (a := 2 + y) (M := M) (by omega) m1
    rw [e]
    exact fin_keep (hQ n _ e1 (by omega) (by omega) D2)
  · refine ⟨trivial, 6, m, rest, rfl, D1, by omega, by omega, fun y μ2 y0 y1 D2 => ?_⟩
    obtain ⟨n, e, e1, e2⟩ := minM_nat (a := 2 + y) (M := M) (by omega) m1
    rw [e]
    exact fin_keep (hQ n _ e1 (by omega) (by omega) D2)
abbrev N_check_width : List Str := ["w"]
theorem sc_check_width : FnScope N_check_width ["w"] (defScope s_check_width) := ⟨rfl, rfl, rfl, by decide +kernel, rfl, by decide +kernel, by decide +kernel⟩
theorem ok_check_width (B : Blt mg) (h_check_width : Own K mg "check_width" s_check_width) (k_is_within : Ok P w K mg base 2 "is_within" s_is_within ["thing", "low", "high"] S_is_within) {t_MOST_WIDTH : Tok} (c_MOST_WIDTH : mg "MOST_WIDTH" = some (.int 12 t_MOST_WIDTH)) : Ok P w K mg base 3 "check_width" s_check_width ["w"] S_check_width := by
  obtain ⟨f_s, fd_s, F_s, g_s⟩ := h_check_width
  obtain ⟨f_is_within, fd_is_within, F_is_within, g_is_within, b_is_within, G_is_within⟩ := k_is_within
  refine ⟨f_s, fd_s, F_s, g_s, F_s.binds (fun _ _ _ _ _ _ us hl => match us, hl with | [_], _ => rfl), FnG.of F_s sc_check_width (fun xs μ Q h => by first | exact h.1 | exact h.2.1 | (obtain ⟨⟩ := h)) fun cdv A outer s H hr hgd => ⟨_, _, (pss_one (ps_if (pt_not (pt_val (pe_callG (G_is_within.mono (by decide)) hr hgd (by rfl) g_is_within F_is_within.kp b_is_within (pa_cons (pv 0) (pa_cons pe_int (pa_cons (pe_glob (v := .int 12) rfl c_MOST_WIDTH ⟨_, rfl⟩) pa_nil))))))
 (pss_one ps_never)
 pss_nil)), (by (try dsimp only [cxOf]); exact inferInstance), ?_⟩⟩
  intro xs μ Q hS
  obtain ⟨_, w, rfl, h1, h2, hQ⟩ := hS
  rw [show startP N_check_width [.int w] = [some (.int w)] from rfl]
  simp only [mLockEN, mDNewN, mDGet2N, mDPutN, mValsN, pLenN, pSortTX, mDNewT, mZipM, mDc, mLenSetL, mDGetT, mDGet2T, mDInT, mDPutT, mLockX, mLockEX, mKeysX, pLstX, pLenX, pMaxT, pSortT, str_to, str_ot, mPar3, mLockV, mLockE, mItemsC, mKeysC, mDGet2, pIsN, isNonP, pRepLM, mTruD, dkOfP, pPopAt, pIndex, mLstRgM, mTruth, pReprA, pLenD, pLstD, mDNew, pRepL, mLenSetN, mDIn, mSortSet, mSortSetL, mRevT, mForC, mSeqC, mLcC, pAbs, pMax2, pMin2, pInt1, mDGet, mDPut, mBM, mBM0, pPop, pAppend, pExtend, pSetL, mSub, mDisp, mPs, mPs0, mRevL, mRevLM, pLstOfM, mTupRg, mRg1, mRg2, pPlusM, lstItems, dictOfP, keyP, keysP, val_left, val_mixed, val_draws, put_draws, mLc, mLcM, mLc2, mFor, mSeqI, mRng1, mRng2, mZip, mEnum, mSl, mNoPart, mPart, mSeq, mAsg, mAsg2, mCB, mCons, mNil, mVar, mC, mOp, mUn, pU, mTup, mLst, mRet, mRetN, mLstM, getl, setl, mName, mCall, mCallK, mIf, mIfS, mTest, mAnd, mOr, mNot, mYes, mAndV, mOrV, mNotV, mNext, mNever, mBreak, mCont, mDrop, mChain, mPar, mGTup, mGCons, mGNil, pGcd, pI, pI0, pIx, pTimes, pPlus, pEq, pNe, pLen, pSum, pMaxS, pAll, pAny, pTupOf, pLstOf, pIn, pIsB, pIsi, items_tup, items_lst, items_kl, items_mr, items_tab, items_lot, items_fr, decide_true, decide_false, eqP_int, eqP_bl, eqP_str, eqP_tup2, kit_tt, kit_ii, kit_ib, tyP, mEnd, wipeP, List.map_cons, List.map_nil, List.getElem?_cons_zero, List.getElem?_cons_succ, List.set_cons_zero, List.set_cons_succ, atI_zero, atI_one, if_true, if_false, ite_true, ite_false, Bool.false_eq_true, List.length_cons, List.length_nil, Bool.not_true, Bool.not_false, S_is_within]
  refine ⟨trivial, _, _, _, rfl, ?_⟩
  have e : (decide ((1 : Int) ≤ (w : Nat)) && decide (((w : Nat) : Int) ≤ 12)) = true := by simp; omega
  rw [e]
  exact fin_keep hQ
abbrev N_is_want : List Str := ["thing", "w"]
theorem sc_is_want : FnScope N_is_want ["thing", "w"] (defScope s_is_want) := ⟨rfl, rfl, rfl, by decide +kernel, rfl, by decide +kernel, by decide +kernel⟩
theorem ok_is_want (B : Blt mg) (h_is_want : Own K mg "is_want" s_is_want) (k_is_within : Ok P w K mg base 2 "is_within" s_is_within ["thing", "low", "high"] S_is_within) {t_MOST_WANT : Tok} (c_MOST_WANT : mg "MOST_WANT" = some (.int 64 t_MOST_WANT)) : Ok P w K mg base 3 "is_want" s_is_want ["thing", "w"] S_is_want := by
  obtain ⟨f_s, fd_s, F_s, g_s⟩ := h_is_want
  obtain ⟨f_is_within, fd_is_within, F_is_within, g_is_within, b_is_within, G_is_within⟩ := k_is_within
  refine ⟨f_s, fd_s, F_s, g_s, F_s.binds (fun _ _ _ _ _ _ us hl => match us, hl with | [_, _], _ => rfl), FnG.of F_s sc_is_want (fun xs μ Q h => by first | exact h.1 | exact h.2.1 | (obtain ⟨⟩ := h)) fun cdv A outer s H hr hgd => ⟨_, _, (pss_one (ps_ret (pe_callG (G_is_within.mono (by decide)) hr hgd (by rfl) g_is_within F_is_within.kp b_is_within (pa_cons (pv 0) (pa_cons pe_int (pa_cons (pe_callB (cb_min2 rfl) (by rfl) (B "min" (by decide)) (by decide +kernel) (pa_cons (pe_glob (v := .int 64) rfl c_MOST_WANT ⟨_, rfl⟩) (pa_cons (pe_op op_shlW pe_int (pv 1)) pa_nil))) pa_nil)))))), (by (try dsimp only [cxOf]); exact inferInstance), ?_⟩⟩
  intro xs μ Q hS
  obtain ⟨_, w, n, rfl, h1, h2, h3, h4, hQ⟩ := hS
  rw [show startP N_is_want [.int n, .int w] = [some (.int n), some (.int w)] from rfl]
  simp only [mLockEN, mDNewN, mDGet2N, mDPutN, mValsN, pLenN, pSortTX, mDNewT, mZipM, mDc, mLenSetL, mDGetT, mDGet2T, mDInT, mDPutT, mLockX, mLockEX, mKeysX, pLstX, pLenX, pMaxT, pSortT, str_to, str_ot, mPar3, mLockV, mLockE, mItemsC, mKeysC, mDGet2, pIsN, isNonP, pRepLM, mTruD, dkOfP, pPopAt, pIndex, mLstRgM, mTruth, pReprA, pLenD, pLstD, mDNew, pRepL, mLenSetN, mDIn, mSortSet, mSortSetL, mRevT, mForC, mSeqC, mLcC, pAbs, pMax2, pMin2, pInt1, mDGet, mDPut, mBM, mBM0, pPop, pAppend, pExtend, pSetL, mSub, mDisp, mPs, mPs0, mRevL, mRevLM, pLstOfM, mTupRg, mRg1, mRg2, pPlusM, lstItems, dictOfP, keyP, keysP, val_left, val_mixed, val_draws, put_draws, mLc, mLcM, mLc2, mFor, mSeqI, mRng1, mRng2, mZip, mEnum, mSl, mNoPart, mPart, mSeq, mAsg, mAsg2, mCB, mCons, mNil, mVar, mC, mOp, mUn, pU, mTup, mLst, mRet, mRetN, mLstM, getl, setl, mName, mCall, mCallK, mIf, mIfS, mTest, mAnd, mOr, mNot, mYes, mAndV, mOrV, mNotV, mNext, mNever, mBreak, mCont, mDrop, mChain, mPar, mGTup, mGCons, mGNil, pGcd, pI, pI0, pIx, pTimes, pPlus, pEq, pNe, pLen, pSum, pMaxS, pAll, pAny, pTupOf, pLstOf, pIn, pIsB, pIsi, items_tup, items_lst, items_kl, items_mr, items_tab, items_lot, items_fr, decide_true, decide_false, eqP_int, eqP_bl, eqP_str, eqP_tup2, kit_tt, kit_ii, kit_ib, tyP, mEnd, wipeP, List.map_cons, List.map_nil, List.getElem?_cons_zero, List.getElem?_cons_succ, List.set_cons_zero, List.set_cons_succ, atI_zero, atI_one, if_true, if_false, ite_true, ite_false, Bool.false_eq_true, List.length_cons, List.length_nil, Bool.not_true, Bool.not_false, S_is_within]
  simp only [shl1w]
  have hsh : CShl 1 (w : Nat) := shl_ok (n := 1) (by decide) (by omega)
  refine ⟨hsh, trivial, _, _, _, rfl, ?_⟩
  have e : (decide ((2 : Int) ≤ (n : Nat)) && decide (((n : Nat) : Int) ≤ if ((2 ^ w : Nat) : Int) < 64 then ((2 ^ w : Nat) : Int) else 64)) = true := by
    rw [Bool.and_eq_true, decide_eq_true_eq, decide_eq_true_eq]
    generalize 2 ^ w = W at *
    refine ⟨by omega, ?_⟩
    split <;> omega
  rw [e]
  exact fin_keep hQ
abbrev N_are_integers : List Str := ["thing", "low", "high", "item"]
theorem sc_are_integers : FnScope N_are_integers ["thing", "low", "high"] (defScope s_are_integers) := ⟨rfl, rfl, rfl, by decide +kernel, rfl, by decide +kernel, by decide +kernel⟩
theorem ok_are_integers (B : Blt mg) (h_are_integers : Own K mg "are_integers" s_are_integers) (k_is_within : Ok P w K mg base 2 "is_within" s_is_within ["thing", "low", "high"] S_is_within) : Ok P w K mg base 3 "are_integers" s_are_integers ["thing", "low", "high"] S_are_integers := by
  obtain ⟨f_s, fd_s, F_s, g_s⟩ := h_are_integers
  obtain ⟨f_is_within, fd_is_within, F_is_within, g_is_within, b_is_within, G_is_within⟩ := k_is_within
  refine ⟨f_s, fd_s, F_s, g_s, F_s.binds (fun _ _ _ _ _ _ us hl => match us, hl with | [_, _, _], _ => rfl), FnG.of F_s sc_are_integers (fun xs μ Q h => by first | exact h.1 | exact h.2.1 | (obtain ⟨⟩ := h)) fun cdv A outer s H hr hgd => ⟨_, _, (pss_one (ps_ret (pe_and (pe_callB call_isi (by rfl) (B "isinstance" (by decide)) (by decide +kernel) (pa_cons (pv 0) (pa_cons (pe_bltn (v := .ty "tuple") (u := .type "tuple") (by rfl) (B "tuple" (by decide)) (by decide +kernel) rfl) pa_nil))) (pe_one (pe_callB (cr_all rfl) (by rfl) (B "all" (by decide)) (by decide +kernel) (pa_cons (pe_lc (own := [("item", 3)]) (by rfl) sc_are_integers.nd (pi_seq (pv 0)) (blkOk_by (own := [("item", 3)]) (N := N_are_integers) (sc := defScope s_are_integers) (by decide +kernel)) (fun _ _ _ _ _ => (pg_name (i := 3) sc_are_integers.nd rfl (Or.inl rfl))) (fun _ _ _ _ _ => pts_nil) (fun _ _ _ _ _ => (pek_call K rfl (G_is_within.mono (by decide)) hr hgd (by rfl) g_is_within F_is_within.kp b_is_within (pa_cons (pv 3) (pa_cons (pv 1) (pa_cons (pv 2) pa_nil)))))) pa_nil)))))), (by (try dsimp only [cxOf]); exact inferInstance), ?_⟩⟩
  intro xs μ Q hS
  obtain ⟨_, vs, lo, hi, rfl, hl, hQ⟩ := hS
  rw [show startP N_are_integers [.tup (vs.map PV.int), .int lo, .int hi] = [some (.tup (vs.map PV.int)), some (.int lo), some (.int hi), none] from rfl]
  simp only [mLockEN, mDNewN, mDGet2N, mDPutN, mValsN, pLenN, pSortTX, mDNewT, mZipM, mDc, mLenSetL, mDGetT, mDGet2T, mDInT, mDPutT, mLockX, mLockEX, mKeysX, pLstX, pLenX, pMaxT, pSortT, str_to, str_ot, mPar3, mLockV, mLockE, mItemsC, mKeysC, mDGet2, pIsN, isNonP, pRepLM, mTruD, dkOfP, pPopAt, pIndex, mLstRgM, mTruth, pReprA, pLenD, pLstD, mDNew, pRepL, mLenSetN, mDIn, mSortSet, mSortSetL, mRevT, mForC, mSeqC, mLcC, pAbs, pMax2, pMin2, pInt1, mDGet, mDPut, mBM, mBM0, pPop, pAppend, pExtend, pSetL, mSub, mDisp, mPs, mPs0, mRevL, mRevLM, pLstOfM, mTupRg, mRg1, mRg2, pPlusM, lstItems, dictOfP, keyP, keysP, val_left, val_mixed, val_draws, put_draws, mLc, mLcM, mLc2, mFor, mSeqI, mRng1, mRng2, mZip, mEnum, mSl, mNoPart, mPart, mSeq, mAsg, mAsg2, mCB, mCons, mNil, mVar, mC, mOp, mUn, pU, mTup, mLst, mRet, mRetN, mLstM, getl, setl, mName, mCall, mCallK, mIf, mIfS, mTest, mAnd, mOr, mNot, mYes, mAndV, mOrV, mNotV, mNext, mNever, mBreak, mCont, mDrop, mChain, mPar, mGTup, mGCons, mGNil, pGcd, pI, pI0, pIx, pTimes, pPlus, pEq, pNe, pLen, pSum, pMaxS, pAll, pAny, pTupOf, pLstOf, pIn, pIsB, pIsi, items_tup, items_lst, items_kl, items_mr, items_tab, items_lot, items_fr, decide_true, decide_false, eqP_int, eqP_bl, eqP_str, eqP_tup2, kit_tt, kit_ii, kit_ib, tyP, mEnd, wipeP, List.map_cons, List.map_nil, List.getElem?_cons_zero, List.getElem?_cons_succ, List.set_cons_zero, List.set_cons_succ, atI_zero, atI_one, if_true, if_false, ite_true, ite_false, Bool.false_eq_true, List.length_cons, List.length_nil, Bool.not_true, Bool.not_false]
  refine ⟨by decide, by rw [List.length_map]; exact hl, lc_map (out := fun (i : Int) => .bl (decide (lo ≤ i) && decide (i ≤ hi))) (fun i _ k hk => ?_) ?_⟩
  · simp only [mLockEN, mDNewN, mDGet2N, mDPutN, mValsN, pLenN, pSortTX, mDNewT, mZipM, mDc, mLenSetL, mDGetT, mDGet2T, mDInT, mDPutT, mLockX, mLockEX, mKeysX, pLstX, pLenX, pMaxT, pSortT, str_to, str_ot, mPar3, mLockV, mLockE, mItemsC, mKeysC, mDGet2, pIsN, isNonP, pRepLM, mTruD, dkOfP, pPopAt, pIndex, mLstRgM, mTruth, pReprA, pLenD, pLstD, mDNew, pRepL, mLenSetN, mDIn, mSortSet, mSortSetL, mRevT, mForC, mSeqC, mLcC, pAbs, pMax2, pMin2, pInt1, mDGet, mDPut, mBM, mBM0, pPop, pAppend, pExtend, pSetL, mSub, mDisp, mPs, mPs0, mRevL, mRevLM, pLstOfM, mTupRg, mRg1, mRg2, pPlusM, lstItems, dictOfP, keyP, keysP, val_left, val_mixed, val_draws, put_draws, mLc, mLcM, mLc2, mFor, mSeqI, mRng1, mRng2, mZip, mEnum, mSl, mNoPart, mPart, mSeq, mAsg, mAsg2, mCB, mCons, mNil, mVar, mC, mOp, mUn, pU, mTup, mLst, mRet, mRetN, mLstM, getl, setl, mName, mCall, mCallK, mIf, mIfS, mTest, mAnd, mOr, mNot, mYes, mAndV, mOrV, mNotV, mNext, mNever, mBreak, mCont, mDrop, mChain, mPar, mGTup, mGCons, mGNil, pGcd, pI, pI0, pIx, pTimes, pPlus, pEq, pNe, pLen, pSum, pMaxS, pAll, pAny, pTupOf, pLstOf, pIn, pIsB, pIsi, items_tup, items_lst, items_kl, items_mr, items_tab, items_lot, items_fr, decide_true, decide_false, eqP_int, eqP_bl, eqP_str, eqP_tup2, kit_tt, kit_ii, kit_ib, tyP, mEnd, wipeP, List.map_cons, List.map_nil, List.getElem?_cons_zero, List.getElem?_cons_succ, List.set_cons_zero, List.set_cons_succ, atI_zero, atI_one, if_true, if_false, ite_true, ite_false, Bool.false_eq_true, List.length_cons, List.length_nil, Bool.not_true, Bool.not_false, S_is_within]
    exact ⟨trivial, i, lo, hi, rfl, hk⟩
  · simp only [bools_out, all_out]
    exact fin_keep hQ
abbrev N_is_rest : List Str := ["thing", "w"]
theorem sc_is_rest : FnScope N_is_rest ["thing", "w"] (defScope s_is_rest) := ⟨rfl, rfl, rfl, by decide +kernel, rfl, by decide +kernel, by decide +kernel⟩
theorem ok_is_rest (B : Blt mg) (h_is_rest : Own K mg "is_rest" s_is_rest) (k_is_within : Ok P w K mg base 2 "is_within" s_is_within ["thing", "low", "high"] S_is_within) : Ok P w K mg base 3 "is_rest" s_is_rest ["thing", "w"] S_is_rest := by
  obtain ⟨f_s, fd_s, F_s, g_s⟩ := h_is_rest
  obtain ⟨f_is_within, fd_is_within, F_is_within, g_is_within, b_is_within, G_is_within⟩ := k_is_within
  refine ⟨f_s, fd_s, F_s, g_s, F_s.binds (fun _ _ _ _ _ _ us hl => match us, hl with | [_, _], _ => rfl), FnG.of F_s sc_is_rest (fun xs μ Q h => by first | exact h.1 | exact h.2.1 | (obtain ⟨⟩ := h)) fun cdv A outer s H hr hgd => ⟨_, _, (pss_cons (ps_if (PW.pt (pw_or (pt_not (pt_val (pe_callB call_isi (by rfl) (B "isinstance" (by decide)) (by decide +kernel) (pa_cons (pv 0) (pa_cons (pe_bltn (v := .ty "tuple") (u := .type "tuple") (by rfl) (B "tuple" (by decide)) (by decide +kernel) rfl) pa_nil))))) (pw_or (pt_cmpR (op_neX hr.units) (pe_callB cb_len (by rfl) (B "len" (by decide)) (by decide +kernel) (pa_cons (pv 0) pa_nil)) pe_int (nomark _)) (pw_or1 (pt_not (pt_val (pe_callG (G_is_within.mono (by decide)) hr hgd (by rfl) g_is_within F_is_within.kp b_is_within (pa_cons (pe_ix ix_seq (pv 0) pe_int (fun _ _ => rfl)) (pa_cons pe_int (pa_cons (pe_op op_sub (pe_op op_shlW pe_int (pv 1)) pe_int) pa_nil))))))))))
 (pss_one (ps_ret pe_bl))
 pss_nil)
 (pss_one (ps_ret (pe_callG (G_is_within.mono (by decide)) hr hgd (by rfl) g_is_within F_is_within.kp b_is_within (pa_cons (pe_ix ix_seq (pv 0) pe_int (fun _ _ => rfl)) (pa_cons pe_int (pa_cons (pe_op op_sub (pe_ix ix_seq (pv 0) pe_int (fun _ _ => rfl)) pe_int) pa_nil))))))), (by (try dsimp only [cxOf]); exact inferInstance), ?_⟩⟩
  intro xs μ Q hS
  obtain ⟨_, w, m, r, rfl, h0, h1, h2, hQ⟩ := hS
  rw [show startP N_is_rest [restP m r, .int w] = [some (restP m r), some (.int w)] from rfl]
  simp only [mLockEN, mDNewN, mDGet2N, mDPutN, mValsN, pLenN, pSortTX, mDNewT, mZipM, mDc, mLenSetL, mDGetT, mDGet2T, mDInT, mDPutT, mLockX, mLockEX, mKeysX, pLstX, pLenX, pMaxT, pSortT, str_to, str_ot, mPar3, mLockV, mLockE, mItemsC, mKeysC, mDGet2, pIsN, isNonP, pRepLM, mTruD, dkOfP, pPopAt, pIndex, mLstRgM, mTruth, pReprA, pLenD, pLstD, mDNew, pRepL, mLenSetN, mDIn, mSortSet, mSortSetL, mRevT, mForC, mSeqC, mLcC, pAbs, pMax2, pMin2, pInt1, mDGet, mDPut, mBM, mBM0, pPop, pAppend, pExtend, pSetL, mSub, mDisp, mPs, mPs0, mRevL, mRevLM, pLstOfM, mTupRg, mRg1, mRg2, pPlusM, lstItems, dictOfP, keyP, keysP, val_left, val_mixed, val_draws, put_draws, mLc, mLcM, mLc2, mFor, mSeqI, mRng1, mRng2, mZip, mEnum, mSl, mNoPart, mPart, mSeq, mAsg, mAsg2, mCB, mCons, mNil, mVar, mC, mOp, mUn, pU, mTup, mLst, mRet, mRetN, mLstM, getl, setl, mName, mCall, mCallK, mIf, mIfS, mTest, mAnd, mOr, mNot, mYes, mAndV, mOrV, mNotV, mNext, mNever, mBreak, mCont, mDrop, mChain, mPar, mGTup, mGCons, mGNil, pGcd, pI, pI0, pIx, pTimes, pPlus, pEq, pNe, pLen, pSum, pMaxS, pAll, pAny, pTupOf, pLstOf, pIn, pIsB, pIsi, items_tup, items_lst, items_kl, items_mr, items_tab, items_lot, items_fr, decide_true, decide_false, eqP_int, eqP_bl, eqP_str, eqP_tup2, kit_tt, kit_ii, kit_ib, tyP, mEnd, wipeP, List.map_cons, List.map_nil, List.getElem?_cons_zero, List.getElem?_cons_succ, List.set_cons_zero, List.set_cons_succ, atI_zero, atI_one, if_true, if_false, ite_true, ite_false, Bool.false_eq_true, List.length_cons, List.length_nil, Bool.not_true, Bool.not_false, S_is_within, restP]
  simp only [shl2w]
  have hsh : CShl 2 (w : Nat) := shl_ok (n := 2) (by decide) (by omega)
  rw [if_neg (by decide)]
  generalize 2 ^ w = W at *
  refine ⟨hsh, trivial, _, _, _, rfl, ?_⟩
  have e : (decide ((1 : Int) ≤ (m : Nat)) && decide (((m : Nat) : Int) ≤ ((2 * W : Nat) : Int) - 1)) = true := by simp; omega
  rw [e, if_neg (by decide)]
  refine ⟨trivial, _, _, _, rfl, ?_⟩
  have e : (decide ((0 : Int) ≤ (r : Nat)) && decide (((r : Nat) : Int) ≤ ((m : Nat) : Int) - 1)) = true := by simp; omega
  rw [e]
  exact fin_keep hQ
abbrev N_check_wants : List Str := ["w", "wants", "n"]
theorem sc_check_wants : FnScope N_check_wants ["w", "wants"] (defScope s_check_wants) := ⟨rfl, rfl, rfl, by decide +kernel, rfl, by decide +kernel, by decide +kernel⟩
theorem ok_check_wants (B : Blt mg) (h_check_wants : Own K mg "check_wants" s_check_wants) (k_check_width : Ok P w K mg base 3 "check_width" s_check_width ["w"] S_check_width) (k_is_want : Ok P w K mg base 3 "is_want" s_is_want ["thing", "w"] S_is_want) : Ok P w K mg base 4 "check_wants" s_check_wants ["w", "wants"] S_check_wants := by
  obtain ⟨f_s, fd_s, F_s, g_s⟩ := h_check_wants
  obtain ⟨f_check_width, fd_check_width, F_check_width, g_check_width, b_check_width, G_check_width⟩ := k_check_width
  obtain ⟨f_is_want, fd_is_want, F_is_want, g_is_want, b_is_want, G_is_want⟩ := k_is_want
  refine ⟨f_s, fd_s, F_s, g_s, F_s.binds (fun _ _ _ _ _ _ us hl => match us, hl with | [_, _], _ => rfl), FnG.of F_s sc_check_wants (fun xs μ Q h => by first | exact h.1 | exact h.2.1 | (obtain ⟨⟩ := h)) fun cdv A outer s H hr hgd => ⟨_, _, (pss_cons (ps_expr (pe_callG (G_check_width.mono (by decide)) hr hgd (by rfl) g_check_width F_check_width.kp b_check_width (pa_cons (pv 0) pa_nil)))
 (pss_one (ps_if (PW.pt (pw_or (pt_not (pt_val (pe_callB call_isi (by rfl) (B "isinstance" (by decide)) (by decide +kernel) (pa_cons (pv 1) (pa_cons (pe_bltn (v := .ty "tuple") (u := .type "tuple") (by rfl) (B "tuple" (by decide)) (by decide +kernel) rfl) pa_nil))))) (pw_or1 (pt_not (pt_val (pe_callB (cr_all rfl) (by rfl) (B "all" (by decide)) (by decide +kernel) (pa_cons (pe_lc (own := [("n", 2)]) (by rfl) sc_check_wants.nd (pi_seq (pv 1)) (blkOk_by (own := [("n", 2)]) (N := N_check_wants) (sc := defScope s_check_wants) (by decide +kernel)) (fun _ _ _ _ _ => (pg_name (i := 2) sc_check_wants.nd rfl (Or.inl rfl))) (fun _ _ _ _ _ => pts_nil) (fun _ _ _ _ _ => (pek_call K rfl (G_is_want.mono (by decide)) hr hgd (by rfl) g_is_want F_is_want.kp b_is_want (pa_cons (pv 2) (pa_cons (pv 0) pa_nil))))) pa_nil)))))))
 (pss_one ps_never)
 pss_nil))), (by (try dsimp only [cxOf]); exact inferInstance), ?_⟩⟩
  intro xs μ Q hS
  obtain ⟨_, w, ns, rfl, w1, w2, hn, hl, hQ⟩ := hS
  rw [show startP N_check_wants [.int w, lotP ns] = [some (.int w), some (lotP ns), none] from rfl]
  simp only [mLockEN, mDNewN, mDGet2N, mDPutN, mValsN, pLenN, pSortTX, mDNewT, mZipM, mDc, mLenSetL, mDGetT, mDGet2T, mDInT, mDPutT, mLockX, mLockEX, mKeysX, pLstX, pLenX, pMaxT, pSortT, str_to, str_ot, mPar3, mLockV, mLockE, mItemsC, mKeysC, mDGet2, pIsN, isNonP, pRepLM, mTruD, dkOfP, pPopAt, pIndex, mLstRgM, mTruth, pReprA, pLenD, pLstD, mDNew, pRepL, mLenSetN, mDIn, mSortSet, mSortSetL, mRevT, mForC, mSeqC, mLcC, pAbs, pMax2, pMin2, pInt1, mDGet, mDPut, mBM, mBM0, pPop, pAppend, pExtend, pSetL, mSub, mDisp, mPs, mPs0, mRevL, mRevLM, pLstOfM, mTupRg, mRg1, mRg2, pPlusM, lstItems, dictOfP, keyP, keysP, val_left, val_mixed, val_draws, put_draws, mLc, mLcM, mLc2, mFor, mSeqI, mRng1, mRng2, mZip, mEnum, mSl, mNoPart, mPart, mSeq, mAsg, mAsg2, mCB, mCons, mNil, mVar, mC, mOp, mUn, pU, mTup, mLst, mRet, mRetN, mLstM, getl, setl, mName, mCall, mCallK, mIf, mIfS, mTest, mAnd, mOr, mNot, mYes, mAndV, mOrV, mNotV, mNext, mNever, mBreak, mCont, mDrop, mChain, mPar, mGTup, mGCons, mGNil, pGcd, pI, pI0, pIx, pTimes, pPlus, pEq, pNe, pLen, pSum, pMaxS, pAll, pAny, pTupOf, pLstOf, pIn, pIsB, pIsi, items_tup, items_lst, items_kl, items_mr, items_tab, items_lot, items_fr, decide_true, decide_false, eqP_int, eqP_bl, eqP_str, eqP_tup2, kit_tt, kit_ii, kit_ib, tyP, mEnd, wipeP, List.map_cons, List.map_nil, List.getElem?_cons_zero, List.getElem?_cons_succ, List.set_cons_zero, List.set_cons_succ, atI_zero, atI_one, if_true, if_false, ite_true, ite_false, Bool.false_eq_true, List.length_cons, List.length_nil, Bool.not_true, Bool.not_false, S_check_width]
  refine ⟨trivial, w, rfl, w1, w2, ?_⟩
  simp only [mLockEN, mDNewN, mDGet2N, mDPutN, mValsN, pLenN, pSortTX, mDNewT, mZipM, mDc, mLenSetL, mDGetT, mDGet2T, mDInT, mDPutT, mLockX, mLockEX, mKeysX, pLstX, pLenX, pMaxT, pSortT, str_to, str_ot, mPar3, mLockV, mLockE, mItemsC, mKeysC, mDGet2, pIsN, isNonP, pRepLM, mTruD, dkOfP, pPopAt, pIndex, mLstRgM, mTruth, pReprA, pLenD, pLstD, mDNew, pRepL, mLenSetN, mDIn, mSortSet, mSortSetL, mRevT, mForC, mSeqC, mLcC, pAbs, pMax2, pMin2, pInt1, mDGet, mDPut, mBM, mBM0, pPop, pAppend, pExtend, pSetL, mSub, mDisp, mPs, mPs0, mRevL, mRevLM, pLstOfM, mTupRg, mRg1, mRg2, pPlusM, lstItems, dictOfP, keyP, keysP, val_left, val_mixed, val_draws, put_draws, mLc, mLcM, mLc2, mFor, mSeqI, mRng1, mRng2, mZip, mEnum, mSl, mNoPart, mPart, mSeq, mAsg, mAsg2, mCB, mCons, mNil, mVar, mC, mOp, mUn, pU, mTup, mLst, mRet, mRetN, mLstM, getl, setl, mName, mCall, mCallK, mIf, mIfS, mTest, mAnd, mOr, mNot, mYes, mAndV, mOrV, mNotV, mNext, mNever, mBreak, mCont, mDrop, mChain, mPar, mGTup, mGCons, mGNil, pGcd, pI, pI0, pIx, pTimes, pPlus, pEq, pNe, pLen, pSum, pMaxS, pAll, pAny, pTupOf, pLstOf, pIn, pIsB, pIsi, items_tup, items_lst, items_kl, items_mr, items_tab, items_lot, items_fr, decide_true, decide_false, eqP_int, eqP_bl, eqP_str, eqP_tup2, kit_tt, kit_ii, kit_ib, tyP, mEnd, wipeP, List.map_cons, List.map_nil, List.getElem?_cons_zero, List.getElem?_cons_succ, List.set_cons_zero, List.set_cons_succ, atI_zero, atI_one, if_true, if_false, ite_true, ite_false, Bool.false_eq_true, List.length_cons, List.length_nil, Bool.not_true, Bool.not_false, lotP, S_is_want]
  refine ⟨by decide, by rw [List.length_map]; unfold lim; omega, lc_map (enc := fun (n : Nat) => PV.int n) (out := fun _ => PV.bl true) (fun n hn' kk hk => ?_) ?_⟩
  · simp only [mLockEN, mDNewN, mDGet2N, mDPutN, mValsN, pLenN, pSortTX, mDNewT, mZipM, mDc, mLenSetL, mDGetT, mDGet2T, mDInT, mDPutT, mLockX, mLockEX, mKeysX, pLstX, pLenX, pMaxT, pSortT, str_to, str_ot, mPar3, mLockV, mLockE, mItemsC, mKeysC, mDGet2, pIsN, isNonP, pRepLM, mTruD, dkOfP, pPopAt, pIndex, mLstRgM, mTruth, pReprA, pLenD, pLstD, mDNew, pRepL, mLenSetN, mDIn, mSortSet, mSortSetL, mRevT, mForC, mSeqC, mLcC, pAbs, pMax2, pMin2, pInt1, mDGet, mDPut, mBM, mBM0, pPop, pAppend, pExtend, pSetL, mSub, mDisp, mPs, mPs0, mRevL, mRevLM, pLstOfM, mTupRg, mRg1, mRg2, pPlusM, lstItems, dictOfP, keyP, keysP, val_left, val_mixed, val_draws, put_draws, mLc, mLcM, mLc2, mFor, mSeqI, mRng1, mRng2, mZip, mEnum, mSl, mNoPart, mPart, mSeq, mAsg, mAsg2, mCB, mCons, mNil, mVar, mC, mOp, mUn, pU, mTup, mLst, mRet, mRetN, mLstM, getl, setl, mName, mCall, mCallK, mIf, mIfS, mTest, mAnd, mOr, mNot, mYes, mAndV, mOrV, mNotV, mNext, mNever, mBreak, mCont, mDrop, mChain, mPar, mGTup, mGCons, mGNil, pGcd, pI, pI0, pIx, pTimes, pPlus, pEq, pNe, pLen, pSum, pMaxS, pAll, pAny, pTupOf, pLstOf, pIn, pIsB, pIsi, items_tup, items_lst, items_kl, items_mr, items_tab, items_lot, items_fr, decide_true, decide_false, eqP_int, eqP_bl, eqP_str, eqP_tup2, kit_tt, kit_ii, kit_ib, tyP, mEnd, wipeP, List.map_cons, List.map_nil, List.getElem?_cons_zero, List.getElem?_cons_succ, List.set_cons_zero, List.set_cons_succ, atI_zero, atI_one, if_true, if_false, ite_true, ite_false, Bool.false_eq_true, List.length_cons, List.length_nil, Bool.not_true, Bool.not_false, S_is_want]
    obtain ⟨a, b, c⟩ := hn n hn'
    exact ⟨trivial, w, n, rfl, w2, a, b, c, hk⟩
  have em : ([] : List PV) ++ (ns.map fun _ => PV.bl true) = (ns.map fun _ => true).map PV.bl := by rw [List.map_map]; rfl
  rw [em, boolsP_map]
  simp only
  rw [show (ns.map fun _ => true).all id = true by simp]
  exact fin_keep hQ
abbrev N_are_bits : List Str := ["thing"]
theorem sc_are_bits : FnScope N_are_bits ["thing"] (defScope s_are_bits) := ⟨rfl, rfl, rfl, by decide +kernel, rfl, by decide +kernel, by decide +kernel⟩
theorem ok_are_bits (B : Blt mg) (h_are_bits : Own K mg "are_bits" s_are_bits) (k_are_integers : Ok P w K mg base 3 "are_integers" s_are_integers ["thing", "low", "high"] S_are_integers) : Ok P w K mg base 4 "are_bits" s_are_bits ["thing"] S_are_bits := by
  obtain ⟨f_s, fd_s, F_s, g_s⟩ := h_are_bits
  obtain ⟨f_are_integers, fd_are_integers, F_are_integers, g_are_integers, b_are_integers, G_are_integers⟩ := k_are_integers
  refine ⟨f_s, fd_s, F_s, g_s, F_s.binds (fun _ _ _ _ _ _ us hl => match us, hl with | [_], _ => rfl), FnG.of F_s sc_are_bits (fun xs μ Q h => by first | exact h.1 | exact h.2.1 | (obtain ⟨⟩ := h)) fun cdv A outer s H hr hgd => ⟨_, _, (pss_one (ps_ret (pe_callG (G_are_integers.mono (by decide)) hr hgd (by rfl) g_are_integers F_are_integers.kp b_are_integers (pa_cons (pv 0) (pa_cons pe_int (pa_cons pe_int pa_nil)))))), (by (try dsimp only [cxOf]); exact inferInstance), ?_⟩⟩
  intro xs μ Q hS
  obtain ⟨_, bs, rfl, hl, hQ⟩ := hS
  rw [show startP N_are_bits [lotP bs] = [some (lotP bs)] from rfl]
  simp only [mLockEN, mDNewN, mDGet2N, mDPutN, mValsN, pLenN, pSortTX, mDNewT, mZipM, mDc, mLenSetL, mDGetT, mDGet2T, mDInT, mDPutT, mLockX, mLockEX, mKeysX, pLstX, pLenX, pMaxT, pSortT, str_to, str_ot, mPar3, mLockV, mLockE, mItemsC, mKeysC, mDGet2, pIsN, isNonP, pRepLM, mTruD, dkOfP, pPopAt, pIndex, mLstRgM, mTruth, pReprA, pLenD, pLstD, mDNew, pRepL, mLenSetN, mDIn, mSortSet, mSortSetL, mRevT, mForC, mSeqC, mLcC, pAbs, pMax2, pMin2, pInt1, mDGet, mDPut, mBM, mBM0, pPop, pAppend, pExtend, pSetL, mSub, mDisp, mPs, mPs0, mRevL, mRevLM, pLstOfM, mTupRg, mRg1, mRg2, pPlusM, lstItems, dictOfP, keyP, keysP, val_left, val_mixed, val_draws, put_draws, mLc, mLcM, mLc2, mFor, mSeqI, mRng1, mRng2, mZip, mEnum, mSl, mNoPart, mPart, mSeq, mAsg, mAsg2, mCB, mCons, mNil, mVar, mC, mOp, mUn, pU, mTup, mLst, mRet, mRetN, mLstM, getl, setl, mName, mCall, mCallK, mIf, mIfS, mTest, mAnd, mOr, mNot, mYes, mAndV, mOrV, mNotV, mNext, mNever, mBreak, mCont, mDrop, mChain, mPar, mGTup, mGCons, mGNil, pGcd, pI, pI0, pIx, pTimes, pPlus, pEq, pNe, pLen, pSum, pMaxS, pAll, pAny, pTupOf, pLstOf, pIn, pIsB, pIsi, items_tup, items_lst, items_kl, items_mr, items_tab, items_lot, items_fr, decide_true, decide_false, eqP_int, eqP_bl, eqP_str, eqP_tup2, kit_tt, kit_ii, kit_ib, tyP, mEnd, wipeP, List.map_cons, List.map_nil, List.getElem?_cons_zero, List.getElem?_cons_succ, List.set_cons_zero, List.set_cons_succ, atI_zero, atI_one, if_true, if_false, ite_true, ite_false, Bool.false_eq_true, List.length_cons, List.length_nil, Bool.not_true, Bool.not_false, S_are_integers]
  refine ⟨trivial, zs bs, 0, 1, by rw [lot_ints], by rw [zs_length]; unfold lim; omega, ?_⟩
  rw [bits_all]
  exact fin_keep hQ
abbrev N_check_want : List Str := ["w", "n"]
theorem sc_check_want : FnScope N_check_want ["w", "n"] (defScope s_check_want) := ⟨rfl, rfl, rfl, by decide +kernel, rfl, by decide +kernel, by decide +kernel⟩
theorem ok_check_want (B : Blt mg) (h_check_want : Own K mg "check_want" s_check_want) (k_check_width : Ok P w K mg base 3 "check_width" s_check_width ["w"] S_check_width) (k_is_want : Ok P w K mg base 3 "is_want" s_is_want ["thing", "w"] S_is_want) : Ok P w K mg base 4 "check_want" s_check_want ["w", "n"] S_check_want := by
  obtain ⟨f_s, fd_s, F_s, g_s⟩ := h_check_want
  obtain ⟨f_check_width, fd_check_width, F_check_width, g_check_width, b_check_width, G_check_width⟩ := k_check_width
  obtain ⟨f_is_want, fd_is_want, F_is_want, g_is_want, b_is_want, G_is_want⟩ := k_is_want
  refine ⟨f_s, fd_s, F_s, g_s, F_s.binds (fun _ _ _ _ _ _ us hl => match us, hl with | [_, _], _ => rfl), FnG.of F_s sc_check_want (fun xs μ Q h => by first | exact h.1 | exact h.2.1 | (obtain ⟨⟩ := h)) fun cdv A outer s H hr hgd => ⟨_, _, (pss_cons (ps_expr (pe_callG (G_check_width.mono (by decide)) hr hgd (by rfl) g_check_width F_check_width.kp b_check_width (pa_cons (pv 0) pa_nil)))
 (pss_one (ps_if (pt_not (pt_val (pe_callG (G_is_want.mono (by decide)) hr hgd (by rfl) g_is_want F_is_want.kp b_is_want (pa_cons (pv 1) (pa_cons (pv 0) pa_nil)))))
 (pss_one ps_never)
 pss_nil))), (by (try dsimp only [cxOf]); exact inferInstance), ?_⟩⟩
  intro xs μ Q hS
  obtain ⟨_, w, n, rfl, h0, h1, h2, h3, h4, hQ⟩ := hS
  rw [show startP N_check_want [.int w, .int n] = [some (.int w), some (.int n)] from rfl]
  simp only [mLockEN, mDNewN, mDGet2N, mDPutN, mValsN, pLenN, pSortTX, mDNewT, mZipM, mDc, mLenSetL, mDGetT, mDGet2T, mDInT, mDPutT, mLockX, mLockEX, mKeysX, pLstX, pLenX, pMaxT, pSortT, str_to, str_ot, mPar3, mLockV, mLockE, mItemsC, mKeysC, mDGet2, pIsN, isNonP, pRepLM, mTruD, dkOfP, pPopAt, pIndex, mLstRgM, mTruth, pReprA, pLenD, pLstD, mDNew, pRepL, mLenSetN, mDIn, mSortSet, mSortSetL, mRevT, mForC, mSeqC, mLcC, pAbs, pMax2, pMin2, pInt1, mDGet, mDPut, mBM, mBM0, pPop, pAppend, pExtend, pSetL, mSub, mDisp, mPs, mPs0, mRevL, mRevLM, pLstOfM, mTupRg, mRg1, mRg2, pPlusM, lstItems, dictOfP, keyP, keysP, val_left, val_mixed, val_draws, put_draws, mLc, mLcM, mLc2, mFor, mSeqI, mRng1, mRng2, mZip, mEnum, mSl, mNoPart, mPart, mSeq, mAsg, mAsg2, mCB, mCons, mNil, mVar, mC, mOp, mUn, pU, mTup, mLst, mRet, mRetN, mLstM, getl, setl, mName, mCall, mCallK, mIf, mIfS, mTest, mAnd, mOr, mNot, mYes, mAndV, mOrV, mNotV, mNext, mNever, mBreak, mCont, mDrop, mChain, mPar, mGTup, mGCons, mGNil, pGcd, pI, pI0, pIx, pTimes, pPlus, pEq, pNe, pLen, pSum, pMaxS, pAll, pAny, pTupOf, pLstOf, pIn, pIsB, pIsi, items_tup, items_lst, items_kl, items_mr, items_tab, items_lot, items_fr, decide_true, decide_false, eqP_int, eqP_bl, eqP_str, eqP_tup2, kit_tt, kit_ii, kit_ib, tyP, mEnd, wipeP, List.map_cons, List.map_nil, List.getElem?_cons_zero, List.getElem?_cons_succ, List.set_cons_zero, List.set_cons_succ, atI_zero, atI_one, if_true, if_false, ite_true, ite_false, Bool.false_eq_true, List.length_cons, List.length_nil, Bool.not_true, Bool.not_false, S_check_width, S_is_want]
  exact ⟨trivial, w, rfl, h0, h1, trivial, w, n, rfl, h1, h2, h3, h4, fin_keep hQ⟩
abbrev N_check_bits : List Str := ["bits"]
theorem sc_check_bits : FnScope N_check_bits ["bits"] (defScope s_check_bits) := ⟨rfl, rfl, rfl, by decide +kernel, rfl, by decide +kernel, by decide +kernel⟩
theorem ok_check_bits (B : Blt mg) (h_check_bits : Own K mg "check_bits" s_check_bits) (k_are_bits : Ok P w K mg base 4 "are_bits" s_are_bits ["thing"] S_are_bits) : Ok P w K mg base 5 "check_bits" s_check_bits ["bits"] S_check_bits := by
  obtain ⟨f_s, fd_s, F_s, g_s⟩ := h_check_bits
  obtain ⟨f_are_bits, fd_are_bits, F_are_bits, g_are_bits, b_are_bits, G_are_bits⟩ := k_are_bits
  refine ⟨f_s, fd_s, F_s, g_s, F_s.binds (fun _ _ _ _ _ _ us hl => match us, hl with | [_], _ => rfl), FnG.of F_s sc_check_bits (fun xs μ Q h => by first | exact h.1 | exact h.2.1 | (obtain ⟨⟩ := h)) fun cdv A outer s H hr hgd => ⟨_, _, (pss_one (ps_if (pt_not (pt_val (pe_callG (G_are_bits.mono (by decide)) hr hgd (by rfl) g_are_bits F_are_bits.kp b_are_bits (pa_cons (pv 0) pa_nil))))
 (pss_one ps_never)
 pss_nil)), (by (try dsimp only [cxOf]); exact inferInstance), ?_⟩⟩
  intro xs μ Q hS
  obtain ⟨_, bs, rfl, hb, hl, hQ⟩ := hS
  rw [show startP N_check_bits [lotP bs] = [some (lotP bs)] from rfl]
  have hall : bs.all (· < 2) = true := by simpa using hb
  simp only [mLockEN, mDNewN, mDGet2N, mDPutN, mValsN, pLenN, pSortTX, mDNewT, mZipM, mDc, mLenSetL, mDGetT, mDGet2T, mDInT, mDPutT, mLockX, mLockEX, mKeysX, pLstX, pLenX, pMaxT, pSortT, str_to, str_ot, mPar3, mLockV, mLockE, mItemsC, mKeysC, mDGet2, pIsN, isNonP, pRepLM, mTruD, dkOfP, pPopAt, pIndex, mLstRgM, mTruth, pReprA, pLenD, pLstD, mDNew, pRepL, mLenSetN, mDIn, mSortSet, mSortSetL, mRevT, mForC, mSeqC, mLcC, pAbs, pMax2, pMin2, pInt1, mDGet, mDPut, mBM, mBM0, pPop, pAppend, pExtend, pSetL, mSub, mDisp, mPs, mPs0, mRevL, mRevLM, pLstOfM, mTupRg, mRg1, mRg2, pPlusM, lstItems, dictOfP, keyP, keysP, val_left, val_mixed, val_draws, put_draws, mLc, mLcM, mLc2, mFor, mSeqI, mRng1, mRng2, mZip, mEnum, mSl, mNoPart, mPart, mSeq, mAsg, mAsg2, mCB, mCons, mNil, mVar, mC, mOp, mUn, pU, mTup, mLst, mRet, mRetN, mLstM, getl, setl, mName, mCall, mCallK, mIf, mIfS, mTest, mAnd, mOr, mNot, mYes, mAndV, mOrV, mNotV, mNext, mNever, mBreak, mCont, mDrop, mChain, mPar, mGTup, mGCons, mGNil, pGcd, pI, pI0, pIx, pTimes, pPlus, pEq, pNe, pLen, pSum, pMaxS, pAll, pAny, pTupOf, pLstOf, pIn, pIsB, pIsi, items_tup, items_lst, items_kl, items_mr, items_tab, items_lot, items_fr, decide_true, decide_false, eqP_int, eqP_bl, eqP_str, eqP_tup2, kit_tt, kit_ii, kit_ib, tyP, mEnd, wipeP, List.map_cons, List.map_nil, List.getElem?_cons_zero, List.getElem?_cons_succ, List.set_cons_zero, List.set_cons_succ, atI_zero, atI_one, if_true, if_false, ite_true, ite_false, Bool.false_eq_true, List.length_cons, List.length_nil, Bool.not_true, Bool.not_false, S_are_bits]
  refine ⟨trivial, bs, rfl, by omega, ?_⟩
  rw [hall]
  exact fin_keep hQ
abbrev N_row_wanted : List Str := ["w", "wants", "bits", "found", "rest", "taken", "n", "told", "outcome"]
theorem sc_row_wanted : FnScope N_row_wanted ["w", "wants", "bits"] (defScope s_row_wanted) := ⟨rfl, rfl, rfl, by decide +kernel, rfl, by decide +kernel, by decide +kernel⟩
theorem ok_row_wanted (B : Blt mg) (h_row_wanted : Own K mg "row_wanted" s_row_wanted) (k_check_wants : Ok P w K mg base 4 "check_wants" s_check_wants ["w", "wants"] S_check_wants) (k_check_bits : Ok P w K mg base 5 "check_bits" s_check_bits ["bits"] S_check_bits) (k_drawn_behind : Ok P w K mg base 1 "drawn_behind" s_drawn_behind ["w", "rest", "n", "bits", "taken"] S_drawn_behind) : Ok P w K mg base 6 "row_wanted" s_row_wanted ["w", "wants", "bits"] S_row_wanted := by
  obtain ⟨f_s, fd_s, F_s, g_s⟩ := h_row_wanted
  obtain ⟨f_check_wants, fd_check_wants, F_check_wants, g_check_wants, b_check_wants, G_check_wants⟩ := k_check_wants
  obtain ⟨f_check_bits, fd_check_bits, F_check_bits, g_check_bits, b_check_bits, G_check_bits⟩ := k_check_bits
  obtain ⟨f_drawn_behind, fd_drawn_behind, F_drawn_behind, g_drawn_behind, b_drawn_behind, G_drawn_behind⟩ := k_drawn_behind
  refine ⟨f_s, fd_s, F_s, g_s, F_s.binds (fun _ _ _ _ _ _ us hl => match us, hl with | [_, _, _], _ => rfl), FnG.of F_s sc_row_wanted (fun xs μ Q h => by first | exact h.1 | exact h.2.1 | (obtain ⟨⟩ := h)) fun cdv A outer s H hr hgd => ⟨_, _, (pss_cons (ps_expr (pe_callG (G_check_wants.mono (by decide)) hr hgd (by rfl) g_check_wants F_check_wants.kp b_check_wants (pa_cons (pv 0) (pa_cons (pv 1) pa_nil))))
 (pss_cons (ps_expr (pe_callG (G_check_bits.mono (by decide)) hr hgd (by rfl) g_check_bits F_check_bits.kp b_check_bits (pa_cons (pv 2) pa_nil)))
 (pss_cons (ps_set (i := 3) sc_row_wanted.nd rfl (Or.inl rfl) (peLM (pe_lst pa_nil)))
 (pss_cons (ps_asg (pe_tup (pa_cons (pe_tup (pa_cons pe_int (pa_cons pe_int pa_nil))) (pa_cons pe_int pa_nil))) (pg_tup (n := 2) rfl (pgs_cons (pg_name (i := 4) sc_row_wanted.nd rfl (Or.inl rfl)) (pgs_cons (pg_name (i := 5) sc_row_wanted.nd rfl (Or.inl rfl)) pgs_nil))))
 (pss_cons (ps_for PassesOwn.never rfl (pi_seq (pv 1)) (pg_name (i := 6) sc_row_wanted.nd rfl (Or.inl rfl))
 (pss_cons (ps_set (i := 7) sc_row_wanted.nd rfl (Or.inl rfl) (pe_callG (G_drawn_behind.mono (by decide)) hr hgd (by rfl) g_drawn_behind F_drawn_behind.kp b_drawn_behind (pa_cons (pv 0) (pa_cons (pv 4) (pa_cons (pv 6) (pa_cons (pv 2) (pa_cons (pv 5) pa_nil)))))))
 (pss_cons (ps_if (pt_cmpR op_isNn (pv 7) pe_non (nomark _))
 (pss_one (ps_ret pe_non))
 pss_nil)
 (pss_cons (ps_asg (pv 7) (pg_tup (n := 3) rfl (pgs_cons (pg_name (i := 8) sc_row_wanted.nd rfl (Or.inl rfl)) (pgs_cons (pg_name (i := 4) sc_row_wanted.nd rfl (Or.inl rfl)) (pgs_cons (pg_name (i := 5) sc_row_wanted.nd rfl (Or.inl rfl)) pgs_nil)))))
 (pss_one (ps_expr (pe_bm PySem.F.plainAttrs_list PySem.F.slot_list_append PySem.F.type_list_append mt_append (pv 3) (pa_cons (pv 8) pa_nil))))))))
 (pss_one (ps_ret (pe_tup (pa_cons (pe_callTy cb_tup (by rfl) (B "tuple" (by decide)) (by decide +kernel) (pa_cons (pv 3) pa_nil)) (pa_cons (pv 4) (pa_cons (pv 5) pa_nil))))))))))), (by (try dsimp only [cxOf]); exact inferInstance), ?_⟩⟩
  intro xs μ Q hS
  obtain ⟨_, w, ns, bs, rfl, w1, w2, hn, hl, hb, hbl, hQ⟩ := hS
  rw [show startP N_row_wanted [.int w, lotP ns, lotP bs] = [some (.int w), some (lotP ns), some (lotP bs), none, none, none, none, none, none] from rfl]
  refine stm_of fun R hR => ?_
  simp only [mLockEN, mDNewN, mDGet2N, mDPutN, mValsN, pLenN, pSortTX, mDNewT, mZipM, mDc, mLenSetL, mDGetT, mDGet2T, mDInT, mDPutT, mLockX, mLockEX, mKeysX, pLstX, pLenX, pMaxT, pSortT, str_to, str_ot, mPar3, mLockV, mLockE, mItemsC, mKeysC, mDGet2, pIsN, isNonP, pRepLM, mTruD, dkOfP, pPopAt, pIndex, mLstRgM, mTruth, pReprA, pLenD, pLstD, mDNew, pRepL, mLenSetN, mDIn, mSortSet, mSortSetL, mRevT, mForC, mSeqC, mLcC, pAbs, pMax2, pMin2, pInt1, mDGet, mDPut, mBM, mBM0, pPop, pAppend, pExtend, pSetL, mSub, mDisp, mPs, mPs0, mRevL, mRevLM, pLstOfM, mTupRg, mRg1, mRg2, pPlusM, lstItems, dictOfP, keyP, keysP, val_left, val_mixed, val_draws, put_draws, mLc, mLcM, mLc2, mFor, mSeqI, mRng1, mRng2, mZip, mEnum, mSl, mNoPart, mPart, mSeq, mAsg, mAsg2, mCB, mCons, mNil, mVar, mC, mOp, mUn, pU, mTup, mLst, mRet, mRetN, mLstM, getl, setl, mName, mCall, mCallK, mIf, mIfS, mTest, mAnd, mOr, mNot, mYes, mAndV, mOrV, mNotV, mNext, mNever, mBreak, mCont, mDrop, mChain, mPar, mGTup, mGCons, mGNil, pGcd, pI, pI0, pIx, pTimes, pPlus, pEq, pNe, pLen, pSum, pMaxS, pAll, pAny, pTupOf, pLstOf, pIn, pIsB, pIsi, items_tup, items_lst, items_kl, items_mr, items_tab, items_lot, items_fr, decide_true, decide_false, eqP_int, eqP_bl, eqP_str, eqP_tup2, kit_tt, kit_ii, kit_ib, tyP, mEnd, wipeP, List.map_cons, List.map_nil, List.getElem?_cons_zero, List.getElem?_cons_succ, List.set_cons_zero, List.set_cons_succ, atI_zero, atI_one, if_true, if_false, ite_true, ite_false, Bool.false_eq_true, List.length_cons, List.length_nil, Bool.not_true, Bool.not_false, S_check_wants]
  refine ⟨trivial, w, ns, rfl, w1, w2, hn, hl, ?_⟩
  subst hR
  refine stm_of fun R hR => ?_
  simp only [mLockEN, mDNewN, mDGet2N, mDPutN, mValsN, pLenN, pSortTX, mDNewT, mZipM, mDc, mLenSetL, mDGetT, mDGet2T, mDInT, mDPutT, mLockX, mLockEX, mKeysX, pLstX, pLenX, pMaxT, pSortT, str_to, str_ot, mPar3, mLockV, mLockE, mItemsC, mKeysC, mDGet2, pIsN, isNonP, pRepLM, mTruD, dkOfP, pPopAt, pIndex, mLstRgM, mTruth, pReprA, pLenD, pLstD, mDNew, pRepL, mLenSetN, mDIn, mSortSet, mSortSetL, mRevT, mForC, mSeqC, mLcC, pAbs, pMax2, pMin2, pInt1, mDGet, mDPut, mBM, mBM0, pPop, pAppend, pExtend, pSetL, mSub, mDisp, mPs, mPs0, mRevL, mRevLM, pLstOfM, mTupRg, mRg1, mRg2, pPlusM, lstItems, dictOfP, keyP, keysP, val_left, val_mixed, val_draws, put_draws, mLc, mLcM, mLc2, mFor, mSeqI, mRng1, mRng2, mZip, mEnum, mSl, mNoPart, mPart, mSeq, mAsg, mAsg2, mCB, mCons, mNil, mVar, mC, mOp, mUn, pU, mTup, mLst, mRet, mRetN, mLstM, getl, setl, mName, mCall, mCallK, mIf, mIfS, mTest, mAnd, mOr, mNot, mYes, mAndV, mOrV, mNotV, mNext, mNever, mBreak, mCont, mDrop, mChain, mPar, mGTup, mGCons, mGNil, pGcd, pI, pI0, pIx, pTimes, pPlus, pEq, pNe, pLen, pSum, pMaxS, pAll, pAny, pTupOf, pLstOf, pIn, pIsB, pIsi, items_tup, items_lst, items_kl, items_mr, items_tab, items_lot, items_fr, decide_true, decide_false, eqP_int, eqP_bl, eqP_str, eqP_tup2, kit_tt, kit_ii, kit_ib, tyP, mEnd, wipeP, List.map_cons, List.map_nil, List.getElem?_cons_zero, List.getElem?_cons_succ, List.set_cons_zero, List.set_cons_succ, atI_zero, atI_one, if_true, if_false, ite_true, ite_false, Bool.false_eq_true, List.length_cons, List.length_nil, Bool.not_true, Bool.not_false, S_check_bits]
  refine ⟨trivial, bs, rfl, hb, hbl, ?_⟩
  subst hR
  simp only [mLockEN, mDNewN, mDGet2N, mDPutN, mValsN, pLenN, pSortTX, mDNewT, mZipM, mDc, mLenSetL, mDGetT, mDGet2T, mDInT, mDPutT, mLockX, mLockEX, mKeysX, pLstX, pLenX, pMaxT, pSortT, str_to, str_ot, mPar3, mLockV, mLockE, mItemsC, mKeysC, mDGet2, pIsN, isNonP, pRepLM, mTruD, dkOfP, pPopAt, pIndex, mLstRgM, mTruth, pReprA, pLenD, pLstD, mDNew, pRepL, mLenSetN, mDIn, mSortSet, mSortSetL, mRevT, mForC, mSeqC, mLcC, pAbs, pMax2, pMin2, pInt1, mDGet, mDPut, mBM, mBM0, pPop, pAppend, pExtend, pSetL, mSub, mDisp, mPs, mPs0, mRevL, mRevLM, pLstOfM, mTupRg, mRg1, mRg2, pPlusM, lstItems, dictOfP, keyP, keysP, val_left, val_mixed, val_draws, put_draws, mLc, mLcM, mLc2, mFor, mSeqI, mRng1, mRng2, mZip, mEnum, mSl, mNoPart, mPart, mSeq, mAsg, mAsg2, mCB, mCons, mNil, mVar, mC, mOp, mUn, pU, mTup, mLst, mRet, mRetN, mLstM, getl, setl, mName, mCall, mCallK, mIf, mIfS, mTest, mAnd, mOr, mNot, mYes, mAndV, mOrV, mNotV, mNext, mNever, mBreak, mCont, mDrop, mChain, mPar, mGTup, mGCons, mGNil, pGcd, pI, pI0, pIx, pTimes, pPlus, pEq, pNe, pLen, pSum, pMaxS, pAll, pAny, pTupOf, pLstOf, pIn, pIsB, pIsi, items_tup, items_lst, items_kl, items_mr, items_tab, items_lot, items_fr, decide_true, decide_false, eqP_int, eqP_bl, eqP_str, eqP_tup2, kit_tt, kit_ii, kit_ib, tyP, mEnd, wipeP, List.map_cons, List.map_nil, List.getElem?_cons_zero, List.getElem?_cons_succ, List.set_cons_zero, List.set_cons_succ, atI_zero, atI_one, if_true, if_false, ite_true, ite_false, Bool.false_eq_true, List.length_cons, List.length_nil, Bool.not_true, Bool.not_false]
  refine ⟨by decide, ?_⟩
  refine ⟨by decide, by decide, trivial, ?_⟩
  have p0 := Nat.two_pow_pos w
  have p2 := pw_bnd w2
  show mForL _ _ _ (ns.map fun (n : Nat) => PV.int n) _ _
  refine for_inv (enc := fun (n : Nat) => PV.int n) (fun pre ρ μ' => ∃ (x : List Nat × Nat × Nat × Nat) (y6 y7 y8 : Option PV), ρ = [some (.int (w : Nat)), some (lotP ns), some (lotP bs), some (.mr μ.length), some (restP x.2.1 x.2.2.1), some (.int (x.2.2.2 : Nat)), y6, y7, y8] ∧ rww (2 ^ w) pre bs 1 0 = some x ∧ μ' = μ ++ [.lst (x.1.map fun (n : Nat) => PV.int n)]) (done := []) ⟨([], 1, 0, 0), _, _, _, rfl, rfl, rfl⟩ (fun pre n post ρ μ' e hI N hN => ?_) fun ρ μ' hI => ?_
  · obtain ⟨x, y6, y7, y8, rfl, hx, rfl⟩ := hI
    have hns : ns = pre ++ n :: post := e
    have hpre : ∀ k ∈ pre, 2 ≤ k ∧ k ≤ 64 ∧ k ≤ 2 ^ w := fun k hk => hn k (by rw [hns]; exact List.mem_append_left _ hk)
    have hpl : pre.length ≤ 11 := by have := congrArg List.length hns; simp at this; omega
    obtain ⟨n2, n64, nW⟩ := hn n (by rw [hns]; simp)
    obtain ⟨a1, a2, a3, a4, a5⟩ := rww_ok hpre hb (by decide) (by omega) hx
    have hs := rww_snoc (W := 2 ^ w) n (ns := pre) (bs := bs) (m := 1) (r := 0)
    rw [hx] at hs
    simp only at hs
    show mSeq _ _ _ _ _
    refine stm_of fun R2 hR2 => ?_
    simp only [mLockEN, mDNewN, mDGet2N, mDPutN, mValsN, pLenN, pSortTX, mDNewT, mZipM, mDc, mLenSetL, mDGetT, mDGet2T, mDInT, mDPutT, mLockX, mLockEX, mKeysX, pLstX, pLenX, pMaxT, pSortT, str_to, str_ot, mPar3, mLockV, mLockE, mItemsC, mKeysC, mDGet2, pIsN, isNonP, pRepLM, mTruD, dkOfP, pPopAt, pIndex, mLstRgM, mTruth, pReprA, pLenD, pLstD, mDNew, pRepL, mLenSetN, mDIn, mSortSet, mSortSetL, mRevT, mForC, mSeqC, mLcC, pAbs, pMax2, pMin2, pInt1, mDGet, mDPut, mBM, mBM0, pPop, pAppend, pExtend, pSetL, mSub, mDisp, mPs, mPs0, mRevL, mRevLM, pLstOfM, mTupRg, mRg1, mRg2, pPlusM, lstItems, dictOfP, keyP, keysP, val_left, val_mixed, val_draws, put_draws, mLc, mLcM, mLc2, mFor, mSeqI, mRng1, mRng2, mZip, mEnum, mSl, mNoPart, mPart, mSeq, mAsg, mAsg2, mCB, mCons, mNil, mVar, mC, mOp, mUn, pU, mTup, mLst, mRet, mRetN, mLstM, getl, setl, mName, mCall, mCallK, mIf, mIfS, mTest, mAnd, mOr, mNot, mYes, mAndV, mOrV, mNotV, mNext, mNever, mBreak, mCont, mDrop, mChain, mPar, mGTup, mGCons, mGNil, pGcd, pI, pI0, pIx, pTimes, pPlus, pEq, pNe, pLen, pSum, pMaxS, pAll, pAny, pTupOf, pLstOf, pIn, pIsB, pIsi, items_tup, items_lst, items_kl, items_mr, items_tab, items_lot, items_fr, decide_true, decide_false, eqP_int, eqP_bl, eqP_str, eqP_tup2, kit_tt, kit_ii, kit_ib, tyP, mEnd, wipeP, List.map_cons, List.map_nil, List.getElem?_cons_zero, List.getElem?_cons_succ, List.set_cons_zero, List.set_cons_succ, atI_zero, atI_one, if_true, if_false, ite_true, ite_false, Bool.false_eq_true, List.length_cons, List.length_nil, Bool.not_true, Bool.not_false, S_drawn_behind]
    refine ⟨trivial, w, x.2.1, x.2.2.1, n, bs, x.2.2.2, rfl, w1, w2, n2, n64, nW, hb, hbl, a1, a2, a3, ?_⟩
    unfold wntT
    cases e9 : wnt (2 ^ w) n (bs.drop x.2.2.2) x.2.1 x.2.2.1 with
    | none =>
      rw [e9] at hs
      subst hR2
      simp only [mLockEN, mDNewN, mDGet2N, mDPutN, mValsN, pLenN, pSortTX, mDNewT, mZipM, mDc, mLenSetL, mDGetT, mDGet2T, mDInT, mDPutT, mLockX, mLockEX, mKeysX, pLstX, pLenX, pMaxT, pSortT, str_to, str_ot, mPar3, mLockV, mLockE, mItemsC, mKeysC, mDGet2, pIsN, isNonP, pRepLM, mTruD, dkOfP, pPopAt, pIndex, mLstRgM, mTruth, pReprA, pLenD, pLstD, mDNew, pRepL, mLenSetN, mDIn, mSortSet, mSortSetL, mRevT, mForC, mSeqC, mLcC, pAbs, pMax2, pMin2, pInt1, mDGet, mDPut, mBM, mBM0, pPop, pAppend, pExtend, pSetL, mSub, mDisp, mPs, mPs0, mRevL, mRevLM, pLstOfM, mTupRg, mRg1, mRg2, pPlusM, lstItems, dictOfP, keyP, keysP, val_left, val_mixed, val_draws, put_draws, mLc, mLcM, mLc2, mFor, mSeqI, mRng1, mRng2, mZip, mEnum, mSl, mNoPart, mPart, mSeq, mAsg, mAsg2, mCB, mCons, mNil, mVar, mC, mOp, mUn, pU, mTup, mLst, mRet, mRetN, mLstM, getl, setl, mName, mCall, mCallK, mIf, mIfS, mTest, mAnd, mOr, mNot, mYes, mAndV, mOrV, mNotV, mNext, mNever, mBreak, mCont, mDrop, mChain, mPar, mGTup, mGCons, mGNil, pGcd, pI, pI0, pIx, pTimes, pPlus, pEq, pNe, pLen, pSum, pMaxS, pAll, pAny, pTupOf, pLstOf, pIn, pIsB, pIsi, items_tup, items_lst, items_kl, items_mr, items_tab, items_lot, items_fr, decide_true, decide_false, eqP_int, eqP_bl, eqP_str, eqP_tup2, kit_tt, kit_ii, kit_ib, tyP, mEnd, wipeP, List.map_cons, List.map_nil, List.getElem?_cons_zero, List.getElem?_cons_succ, List.set_cons_zero, List.set_cons_succ, atI_zero, atI_one, if_true, if_false, ite_true, ite_false, Bool.false_eq_true, List.length_cons, List.length_nil, Bool.not_true, Bool.not_false, wntP, Option.map_none]
      have hz : rww (2 ^ w) ns bs 1 0 = none := by rw [hns, show pre ++ n :: post = (pre ++ [n]) ++ post by simp]; exact rww_none post hs
      rw [hz] at hQ
      exact fin_drop rfl hQ
    | some y =>
      rw [e9] at hs
      subst hR2
      simp only [mLockEN, mDNewN, mDGet2N, mDPutN, mValsN, pLenN, pSortTX, mDNewT, mZipM, mDc, mLenSetL, mDGetT, mDGet2T, mDInT, mDPutT, mLockX, mLockEX, mKeysX, pLstX, pLenX, pMaxT, pSortT, str_to, str_ot, mPar3, mLockV, mLockE, mItemsC, mKeysC, mDGet2, pIsN, isNonP, pRepLM, mTruD, dkOfP, pPopAt, pIndex, mLstRgM, mTruth, pReprA, pLenD, pLstD, mDNew, pRepL, mLenSetN, mDIn, mSortSet, mSortSetL, mRevT, mForC, mSeqC, mLcC, pAbs, pMax2, pMin2, pInt1, mDGet, mDPut, mBM, mBM0, pPop, pAppend, pExtend, pSetL, mSub, mDisp, mPs, mPs0, mRevL, mRevLM, pLstOfM, mTupRg, mRg1, mRg2, pPlusM, lstItems, dictOfP, keyP, keysP, val_left, val_mixed, val_draws, put_draws, mLc, mLcM, mLc2, mFor, mSeqI, mRng1, mRng2, mZip, mEnum, mSl, mNoPart, mPart, mSeq, mAsg, mAsg2, mCB, mCons, mNil, mVar, mC, mOp, mUn, pU, mTup, mLst, mRet, mRetN, mLstM, getl, setl, mName, mCall, mCallK, mIf, mIfS, mTest, mAnd, mOr, mNot, mYes, mAndV, mOrV, mNotV, mNext, mNever, mBreak, mCont, mDrop, mChain, mPar, mGTup, mGCons, mGNil, pGcd, pI, pI0, pIx, pTimes, pPlus, pEq, pNe, pLen, pSum, pMaxS, pAll, pAny, pTupOf, pLstOf, pIn, pIsB, pIsi, items_tup, items_lst, items_kl, items_mr, items_tab, items_lot, items_fr, decide_true, decide_false, eqP_int, eqP_bl, eqP_str, eqP_tup2, kit_tt, kit_ii, kit_ib, tyP, mEnd, wipeP, List.map_cons, List.map_nil, List.getElem?_cons_zero, List.getElem?_cons_succ, List.set_cons_zero, List.set_cons_succ, atI_zero, atI_one, if_true, if_false, ite_true, ite_false, Bool.false_eq_true, List.length_cons, List.length_nil, Bool.not_true, Bool.not_false, wntP, Option.map_some, wadd]
      refine ⟨trivial, by rw [List.length_map]; unfold lim; omega, hN _ _ ⟨_, _, _, _, rfl, hs, ?_⟩⟩
      rw [List.map_append]
      rfl
  · obtain ⟨x, y6, y7, y8, rfl, hx, rfl⟩ := hI
    rw [List.nil_append] at hx
    simp only [mLockEN, mDNewN, mDGet2N, mDPutN, mValsN, pLenN, pSortTX, mDNewT, mZipM, mDc, mLenSetL, mDGetT, mDGet2T, mDInT, mDPutT, mLockX, mLockEX, mKeysX, pLstX, pLenX, pMaxT, pSortT, str_to, str_ot, mPar3, mLockV, mLockE, mItemsC, mKeysC, mDGet2, pIsN, isNonP, pRepLM, mTruD, dkOfP, pPopAt, pIndex, mLstRgM, mTruth, pReprA, pLenD, pLstD, mDNew, pRepL, mLenSetN, mDIn, mSortSet, mSortSetL, mRevT, mForC, mSeqC, mLcC, pAbs, pMax2, pMin2, pInt1, mDGet, mDPut, mBM, mBM0, pPop, pAppend, pExtend, pSetL, mSub, mDisp, mPs, mPs0, mRevL, mRevLM, pLstOfM, mTupRg, mRg1, mRg2, pPlusM, lstItems, dictOfP, keyP, keysP, val_left, val_mixed, val_draws, put_draws, mLc, mLcM, mLc2, mFor, mSeqI, mRng1, mRng2, mZip, mEnum, mSl, mNoPart, mPart, mSeq, mAsg, mAsg2, mCB, mCons, mNil, mVar, mC, mOp, mUn, pU, mTup, mLst, mRet, mRetN, mLstM, getl, setl, mName, mCall, mCallK, mIf, mIfS, mTest, mAnd, mOr, mNot, mYes, mAndV, mOrV, mNotV, mNext, mNever, mBreak, mCont, mDrop, mChain, mPar, mGTup, mGCons, mGNil, pGcd, pI, pI0, pIx, pTimes, pPlus, pEq, pNe, pLen, pSum, pMaxS, pAll, pAny, pTupOf, pLstOf, pIn, pIsB, pIsi, items_tup, items_lst, items_kl, items_mr, items_tab, items_lot, items_fr, decide_true, decide_false, eqP_int, eqP_bl, eqP_str, eqP_tup2, kit_tt, kit_ii, kit_ib, tyP, mEnd, wipeP, List.map_cons, List.map_nil, List.getElem?_cons_zero, List.getElem?_cons_succ, List.set_cons_zero, List.set_cons_succ, atI_zero, atI_one, if_true, if_false, ite_true, ite_false, Bool.false_eq_true, List.length_cons, List.length_nil, Bool.not_true, Bool.not_false]
    rw [hx] at hQ
    exact ⟨by decide, fin_drop (noRef_row (some x)) hQ⟩
abbrev N_wanted : List Str := ["w", "rest", "n", "bits"]
theorem sc_wanted : FnScope N_wanted ["w", "rest", "n", "bits"] (defScope s_wanted) := ⟨rfl, rfl, rfl, by decide +kernel, rfl, by decide +kernel, by decide +kernel⟩
theorem ok_wanted (B : Blt mg) (h_wanted : Own K mg "wanted" s_wanted) (k_check_width : Ok P w K mg base 3 "check_width" s_check_width ["w"] S_check_width) (k_is_rest : Ok P w K mg base 3 "is_rest" s_is_rest ["thing", "w"] S_is_rest) (k_check_want : Ok P w K mg base 4 "check_want" s_check_want ["w", "n"] S_check_want) (k_check_bits : Ok P w K mg base 5 "check_bits" s_check_bits ["bits"] S_check_bits) (k_drawn_behind : Ok P w K mg base 1 "drawn_behind" s_drawn_behind ["w", "rest", "n", "bits", "taken"] S_drawn_behind) : Ok P w K mg base 6 "wanted" s_wanted ["w", "rest", "n", "bits"] S_wanted := by
  obtain ⟨f_s, fd_s, F_s, g_s⟩ := h_wanted
  obtain ⟨f_check_width, fd_check_width, F_check_width, g_check_width, b_check_width, G_check_width⟩ := k_check_width
  obtain ⟨f_is_rest, fd_is_rest, F_is_rest, g_is_rest, b_is_rest, G_is_rest⟩ := k_is_rest
  obtain ⟨f_check_want, fd_check_want, F_check_want, g_check_want, b_check_want, G_check_want⟩ := k_check_want
  obtain ⟨f_check_bits, fd_check_bits, F_check_bits, g_check_bits, b_check_bits, G_check_bits⟩ := k_check_bits
  obtain ⟨f_drawn_behind, fd_drawn_behind, F_drawn_behind, g_drawn_behind, b_drawn_behind, G_drawn_behind⟩ := k_drawn_behind
  refine ⟨f_s, fd_s, F_s, g_s, F_s.binds (fun _ _ _ _ _ _ us hl => match us, hl with | [_, _, _, _], _ => rfl), FnG.of F_s sc_wanted (fun xs μ Q h => by first | exact h.1 | exact h.2.1 | (obtain ⟨⟩ := h)) fun cdv A outer s H hr hgd => ⟨_, _, (pss_cons (ps_expr (pe_callG (G_check_width.mono (by decide)) hr hgd (by rfl) g_check_width F_check_width.kp b_check_width (pa_cons (pv 0) pa_nil)))
 (pss_cons (ps_if (pt_not (pt_val (pe_callG (G_is_rest.mono (by decide)) hr hgd (by rfl) g_is_rest F_is_rest.kp b_is_rest (pa_cons (pv 1) (pa_cons (pv 0) pa_nil)))))
 (pss_one ps_never)
 pss_nil)
 (pss_cons (ps_expr (pe_callG (G_check_want.mono (by decide)) hr hgd (by rfl) g_check_want F_check_want.kp b_check_want (pa_cons (pv 0) (pa_cons (pv 2) pa_nil))))
 (pss_cons (ps_expr (pe_callG (G_check_bits.mono (by decide)) hr hgd (by rfl) g_check_bits F_check_bits.kp b_check_bits (pa_cons (pv 3) pa_nil)))
 (pss_one (ps_ret (pe_callG (G_drawn_behind.mono (by decide)) hr hgd (by rfl) g_drawn_behind F_drawn_behind.kp b_drawn_behind (pa_cons (pv 0) (pa_cons (pv 1) (pa_cons (pv 2) (pa_cons (pv 3) (pa_cons pe_int pa_nil)))))))))))), (by (try dsimp only [cxOf]); exact inferInstance), ?_⟩⟩
  intro xs μ Q hS
  obtain ⟨_, w, m, r, n, bs, rfl, w1, w2, n2, n3, n4, hb, hl, hr, hm, hQ⟩ := hS
  rw [show startP N_wanted [.int w, restP m r, .int n, lotP bs] = [some (.int w), some (restP m r), some (.int n), some (lotP bs)] from rfl]
  simp only [mLockEN, mDNewN, mDGet2N, mDPutN, mValsN, pLenN, pSortTX, mDNewT, mZipM, mDc, mLenSetL, mDGetT, mDGet2T, mDInT, mDPutT, mLockX, mLockEX, mKeysX, pLstX, pLenX, pMaxT, pSortT, str_to, str_ot, mPar3, mLockV, mLockE, mItemsC, mKeysC, mDGet2, pIsN, isNonP, pRepLM, mTruD, dkOfP, pPopAt, pIndex, mLstRgM, mTruth, pReprA, pLenD, pLstD, mDNew, pRepL, mLenSetN, mDIn, mSortSet, mSortSetL, mRevT, mForC, mSeqC, mLcC, pAbs, pMax2, pMin2, pInt1, mDGet, mDPut, mBM, mBM0, pPop, pAppend, pExtend, pSetL, mSub, mDisp, mPs, mPs0, mRevL, mRevLM, pLstOfM, mTupRg, mRg1, mRg2, pPlusM, lstItems, dictOfP, keyP, keysP, val_left, val_mixed, val_draws, put_draws, mLc, mLcM, mLc2, mFor, mSeqI, mRng1, mRng2, mZip, mEnum, mSl, mNoPart, mPart, mSeq, mAsg, mAsg2, mCB, mCons, mNil, mVar, mC, mOp, mUn, pU, mTup, mLst, mRet, mRetN, mLstM, getl, setl, mName, mCall, mCallK, mIf, mIfS, mTest, mAnd, mOr, mNot, mYes, mAndV, mOrV, mNotV, mNext, mNever, mBreak, mCont, mDrop, mChain, mPar, mGTup, mGCons, mGNil, pGcd, pI, pI0, pIx, pTimes, pPlus, pEq, pNe, pLen, pSum, pMaxS, pAll, pAny, pTupOf, pLstOf, pIn, pIsB, pIsi, items_tup, items_lst, items_kl, items_mr, items_tab, items_lot, items_fr, decide_true, decide_false, eqP_int, eqP_bl, eqP_str, eqP_tup2, kit_tt, kit_ii, kit_ib, tyP, mEnd, wipeP, List.map_cons, List.map_nil, List.getElem?_cons_zero, List.getElem?_cons_succ, List.set_cons_zero, List.set_cons_succ, atI_zero, atI_one, if_true, if_false, ite_true, ite_false, Bool.false_eq_true, List.length_cons, List.length_nil, Bool.not_true, Bool.not_false, S_check_width, S_is_rest, S_check_want, S_check_bits, S_drawn_behind]
  refine ⟨trivial, w, rfl, w1, w2, trivial, w, m, r, rfl, w2, hr, hm, trivial, w, n, rfl, w1, w2, n2, n3, n4, trivial, bs, rfl, hb, hl, trivial, w, m, r, n, bs, 0, rfl, w1, w2, n2, n3, n4, hb, hl, hr, hm, Nat.zero_le _, ?_⟩
  rw [wntT_zero]
  exact fin_keep hQ
abbrev N__law_are_even : List Str := ["_law_w", "_law_wants", "_law_most", "_law_lots", "_law_todo", "_law_bits_here", "_law_told", "_law_outcomes", "_law_m", "_law_r", "_law_taken", "_law_lot", "_law_product", "_law_n", "_law_many"]
theorem sc__law_are_even : FnScope N__law_are_even ["_law_w", "_law_wants", "_law_most"] (defScope s__law_are_even) := ⟨rfl, rfl, rfl, by decide +kernel, rfl, by decide +kernel, by decide +kernel⟩
theorem ok__law_are_even (B : Blt mg) (h__law_are_even : Own K mg "_law_are_even" s__law_are_even) (k_row_wanted : Ok P w K mg base 6 "row_wanted" s_row_wanted ["w", "wants", "bits"] S_row_wanted) (k__law_row_wanted : Ok P w K mg base 2 "_law_row_wanted" s__law_row_wanted ["_law_w", "_law_wants", "_law_bits_here"] S__law_row_wanted) : Ok P w K mg base 7 "_law_are_even" s__law_are_even ["_law_w", "_law_wants", "_law_most"] S__law_are_even := by
  obtain ⟨f_s, fd_s, F_s, g_s⟩ := h__law_are_even
  obtain ⟨f_row_wanted, fd_row_wanted, F_row_wanted, g_row_wanted, b_row_wanted, G_row_wanted⟩ := k_row_wanted
  obtain ⟨f__law_row_wanted, fd__law_row_wanted, F__law_row_wanted, g__law_row_wanted, b__law_row_wanted, G__law_row_wanted⟩ := k__law_row_wanted
  refine ⟨f_s, fd_s, F_s, g_s, F_s.binds (fun _ _ _ _ _ _ us hl => match us, hl with | [_, _, _], _ => rfl), FnG.of F_s sc__law_are_even (fun xs μ Q h => by first | exact h.1 | exact h.2.1 | (obtain ⟨⟩ := h)) fun cdv A outer s H hr hgd => ⟨_, _, (pss_cons (ps_par (i := 3) (j := 4) (by rfl) sc__law_are_even.nd rfl rfl (by decide) rfl rfl (pa_cons pe_dnewX (pa_cons (peLM (pe_lst (pa_cons (pe_tup pa_nil) pa_nil))) pa_nil)) (by rfl))
 (pss_cons (ps_while PassesOwn.never (pt_cmpR (op_neX hr.units) (pv 4) (pe_lst pa_nil) (nomark _))
 (pss_cons (ps_set (i := 5) sc__law_are_even.nd rfl (Or.inl rfl) (pe_bm0 PySem.F.plainAttrs_list PySem.F.slot_list_pop PySem.F.type_list_pop mt_pop (pv 4)))
 (pss_cons (ps_set (i := 6) sc__law_are_even.nd rfl (Or.inl rfl) (pe_callG (G_row_wanted.mono (by decide)) hr hgd (by rfl) g_row_wanted F_row_wanted.kp b_row_wanted (pa_cons (pv 0) (pa_cons (pv 1) (pa_cons (pv 5) pa_nil)))))
 (pss_cons (ps_if (pt_cmpR (op_neX hr.units) (pe_callB (cb_reprA hgd hr.units) (by rfl) (B "repr" (by decide)) (by decide +kernel) (pa_cons (pv 6) pa_nil)) (pe_callB (cb_reprA hgd hr.units) (by rfl) (B "repr" (by decide)) (by decide +kernel) (pa_cons (pe_callG (G__law_row_wanted.mono (by decide)) hr hgd (by rfl) g__law_row_wanted F__law_row_wanted.kp b__law_row_wanted (pa_cons (pv 0) (pa_cons (pv 1) (pa_cons (pv 5) pa_nil)))) pa_nil)) (nomark _))
 (pss_one (ps_ret pe_bl))
 pss_nil)
 (pss_cons (ps_if (PW.pt (pw_and (pt_cmpR op_isNn (pv 6) pe_non (nomark _)) (pw_and1 (pt_cmpR op_lt (pe_callB cb_len (by rfl) (B "len" (by decide)) (by decide +kernel) (pa_cons (pv 5) pa_nil)) (pv 2) (nomark _)))))
 (pss_one (ps_set (i := 4) sc__law_are_even.nd rfl (Or.inl rfl) (pe_op op_plusM (pv 4) (pe_lst (pa_cons (pe_op op_plus (pv 5) (pe_tup (pa_cons pe_int pa_nil))) (pa_cons (pe_op op_plus (pv 5) (pe_tup (pa_cons pe_int pa_nil))) pa_nil))))))
 pss_nil)
 (pss_one (ps_if (pt_cmpR op_notNn (pv 6) pe_non (nomark _))
 (pss_cons (ps_if (pt_cmpR (op_neX hr.units) (pe_ix ix_seq (pv 6) pe_int (fun _ _ => rfl)) (pe_callB cb_len (by rfl) (B "len" (by decide)) (by decide +kernel) (pa_cons (pv 5) pa_nil)) (nomark _))
 (pss_one (ps_ret pe_bl))
 pss_nil)
 (pss_cons (ps_asg (pv 6) (pg_tup (n := 3) rfl (pgs_cons (pg_name (i := 7) sc__law_are_even.nd rfl (Or.inl rfl)) (pgs_cons (pg_tup (n := 2) rfl (pgs_cons (pg_name (i := 8) sc__law_are_even.nd rfl (Or.inl rfl)) (pgs_cons (pg_name (i := 9) sc__law_are_even.nd rfl (Or.inl rfl)) pgs_nil))) (pgs_cons (pg_name (i := 10) sc__law_are_even.nd rfl (Or.inl rfl)) pgs_nil)))))
 (pss_cons (ps_set (i := 11) sc__law_are_even.nd rfl (Or.inl rfl) (pe_dget2X (hu_of hr) (pv 3) (pe_tup (pa_cons (pv 10) (pa_cons (pv 8) pa_nil))) pe_dnewN ⟨rfl, rfl, rfl, rfl⟩))
 (pss_cons (ps_dputN (huN_of hr) (pv 11) (pe_tup (pa_cons (pv 7) (pa_cons (pv 9) pa_nil))) (pe_op op_plus (pe_dget2N (huN_of hr) (pv 11) (pe_tup (pa_cons (pv 7) (pa_cons (pv 9) pa_nil))) pe_int ⟨rfl, rfl, rfl, rfl⟩) pe_int) (by rfl))
 (pss_one (ps_dputX (hu_of hr) (pv 3) (pe_tup (pa_cons (pv 10) (pa_cons (pv 8) pa_nil))) (pv 11) (by rfl)))))))
 pss_nil)))))))
 (pss_cons (ps_set (i := 12) sc__law_are_even.nd rfl (Or.inl rfl) pe_int)
 (pss_cons (ps_for PassesOwn.never rfl (pi_seq (pv 1)) (pg_name (i := 13) sc__law_are_even.nd rfl (Or.inl rfl))
 (pss_one (ps_set (i := 12) sc__law_are_even.nd rfl (Or.inl rfl) (pe_op op_times (pv 12) (pv 13)))))
 (pss_cons (ps_for PassesOwn.never rfl (pi_seq (pe_callB (cr_sortTX rfl hr.units) (by rfl) (B "sorted" (by decide)) (by decide +kernel) (pa_cons (pv 3) pa_nil))) (pg_tup (n := 2) rfl (pgs_cons (pg_name (i := 10) sc__law_are_even.nd rfl (Or.inl rfl)) (pgs_cons (pg_name (i := 8) sc__law_are_even.nd rfl (Or.inl rfl)) pgs_nil)))
 (pss_cons (ps_set (i := 11) sc__law_are_even.nd rfl (Or.inl rfl) (pe_dgetX (hu_of hr) (pv 3) (pe_tup (pa_cons (pv 10) (pa_cons (pv 8) pa_nil))) (fun _ _ => rfl)))
 (pss_one (ps_if (PW.pt (pw_or (pt_cmpR (op_neX hr.units) (pe_callB call_len_N (by rfl) (B "len" (by decide)) (by decide +kernel) (pa_cons (pv 11) pa_nil)) (pe_op op_times (pv 12) (pv 8)) (nomark _)) (pw_or1 (pt_cmpR (op_neX hr.units) (pe_lenSetL rfl (by rfl) (B "len" (by decide)) (by rfl) (B "set" (by decide)) (pe_lockN 11 (pe_lc (own := [("_law_many", 14)]) (by rfl) sc__law_are_even.nd (pi_valsN (pv 11)) (blkOk_by (own := [("_law_many", 14)]) (N := N__law_are_even) (sc := defScope s__law_are_even) (by decide +kernel)) (fun _ _ _ _ _ => (pg_name (i := 14) sc__law_are_even.nd rfl (Or.inl rfl))) (fun _ _ _ _ _ => pts_nil) (fun _ _ _ _ _ => (pv 14))))) pe_int (nomark _)))))
 (pss_one (ps_ret pe_bl))
 pss_nil))))
 (pss_one (ps_ret pe_bl))))))), (by (try dsimp only [cxOf]); exact inferInstance), ?_⟩⟩
  intro xs μ Q hS
  obtain ⟨_, w, ns, rfl, w1, w2, hn, hl', hev, hQ⟩ := hS
  rw [show startP N__law_are_even [.int w, lotP ns, .int 7] = [some (.int w), some (lotP ns), some (.int 7), none, none, none, none, none, none, none, none, none, none, none, none] from rfl]
  refine stm_of fun R hR => ?_
  simp only [mLockEN, mDNewN, mDGet2N, mDPutN, mValsN, pLenN, pSortTX, mDNewT, mZipM, mDc, mLenSetL, mDGetT, mDGet2T, mDInT, mDPutT, mLockX, mLockEX, mKeysX, pLstX, pLenX, pMaxT, pSortT, str_to, str_ot, mPar3, mLockV, mLockE, mItemsC, mKeysC, mDGet2, pIsN, isNonP, pRepLM, mTruD, dkOfP, pPopAt, pIndex, mLstRgM, mTruth, pReprA, pLenD, pLstD, mDNew, pRepL, mLenSetN, mDIn, mSortSet, mSortSetL, mRevT, mForC, mSeqC, mLcC, pAbs, pMax2, pMin2, pInt1, mDGet, mDPut, mBM, mBM0, pPop, pAppend, pExtend, pSetL, mSub, mDisp, mPs, mPs0, mRevL, mRevLM, pLstOfM, mTupRg, mRg1, mRg2, pPlusM, lstItems, dictOfP, keyP, keysP, val_left, val_mixed, val_draws, put_draws, mLc, mLcM, mLc2, mFor, mSeqI, mRng1, mRng2, mZip, mEnum, mSl, mNoPart, mPart, mSeq, mAsg, mAsg2, mCB, mCons, mNil, mVar, mC, mOp, mUn, pU, mTup, mLst, mRet, mRetN, mLstM, getl, setl, mName, mCall, mCallK, mIf, mIfS, mTest, mAnd, mOr, mNot, mYes, mAndV, mOrV, mNotV, mNext, mNever, mBreak, mCont, mDrop, mChain, mPar, mGTup, mGCons, mGNil, pGcd, pI, pI0, pIx, pTimes, pPlus, pEq, pNe, pLen, pSum, pMaxS, pAll, pAny, pTupOf, pLstOf, pIn, pIsB, pIsi, items_tup, items_lst, items_kl, items_mr, items_tab, items_lot, items_fr, decide_true, decide_false, eqP_int, eqP_bl, eqP_str, eqP_tup2, kit_tt, kit_ii, kit_ib, tyP, mEnd, wipeP, List.map_cons, List.map_nil, List.getElem?_cons_zero, List.getElem?_cons_succ, List.set_cons_zero, List.set_cons_succ, atI_zero, atI_one, if_true, if_false, ite_true, ite_false, Bool.false_eq_true, List.length_cons, List.length_nil, Bool.not_true, Bool.not_false]
  refine ⟨by decide, by decide, ?_⟩
  subst hR
  obtain ⟨fin, hgo, hri⟩ : ∃ fin, goX (2 ^ w) ns 300 ([.lots [], .rows [[]]], 1) = some fin ∧ rightX (2 ^ w) ns fin = true := by
    unfold evenX at hev
    cases e : goX (2 ^ w) ns 300 ([.lots [], .rows [[]]], 1) with
    | none => rw [e] at hev; cases hev
    | some fin => rw [e] at hev; exact ⟨fin, rfl, hev⟩
  refine stm_of fun R hR => ?_
  rw [show (μ ++ [MO.tk []]).length = μ.length + 1 by rw [List.length_append]; rfl, show μ ++ [MO.tk []] ++ [MO.lst [PV.tup []]] = stX μ [.lots [], .rows [[]]] by rw [List.append_assoc]; rfl]
  refine while_inv (fun j ρ μ' => ∃ (cs : List CX) (td : Nat) (y5 y6 y7 y8 y9 y10 y11 y12 y13 y14 : Option PV), ρ = [some (.int (w : Nat)), some (lotP ns), some (.int 7), some (.mr μ.length), some (.mr (μ.length + td)), y5, y6, y7, y8, y9, y10, y11, y12, y13, y14] ∧ μ' = stX μ cs ∧ goX (2 ^ w) ns j (cs, td) = some fin) (n := 300) ⟨_, 1, _, _, _, _, _, _, _, _, _, _, rfl, rfl, hgo⟩ fun j ρ μ2 hI => ?_
  obtain ⟨cs, td, y5, y6, y7, y8, y9, y10, y11, y12, y13, y14, rfl, rfl, hg⟩ := hI
  have pt2 := pw_bnd w2
  have pt0 := Nat.two_pow_pos w
  rcases goX_cases hg with ⟨hd, rfl⟩ | ⟨i, st, rfl, ht, hg2⟩
  · have hl := doneX_rows hd
    simp only at hl
    have hge : (stX μ cs)[μ.length + td]? = some (.lst (([] : List (List Nat)).map lotP)) := by rw [stX_get, hl]; rfl
    simp only [mLockEN, mDNewN, mDGet2N, mDPutN, mValsN, pLenN, pSortTX, mDNewT, mZipM, mDc, mLenSetL, mDGetT, mDGet2T, mDInT, mDPutT, mLockX, mLockEX, mKeysX, pLstX, pLenX, pMaxT, pSortT, str_to, str_ot, mPar3, mLockV, mLockE, mItemsC, mKeysC, mDGet2, pIsN, isNonP, pRepLM, mTruD, dkOfP, pPopAt, pIndex, mLstRgM, mTruth, pReprA, pLenD, pLstD, mDNew, pRepL, mLenSetN, mDIn, mSortSet, mSortSetL, mRevT, mForC, mSeqC, mLcC, pAbs, pMax2, pMin2, pInt1, mDGet, mDPut, mBM, mBM0, pPop, pAppend, pExtend, pSetL, mSub, mDisp, mPs, mPs0, mRevL, mRevLM, pLstOfM, mTupRg, mRg1, mRg2, pPlusM, lstItems, dictOfP, keyP, keysP, val_left, val_mixed, val_draws, put_draws, mLc, mLcM, mLc2, mFor, mSeqI, mRng1, mRng2, mZip, mEnum, mSl, mNoPart, mPart, mAsg, mAsg2, mCB, mCons, mNil, mVar, mC, mOp, mUn, pU, mTup, mLst, mRet, mRetN, mLstM, getl, setl, mName, mCall, mCallK, mIf, mIfS, mTest, mAnd, mOr, mNot, mYes, mAndV, mOrV, mNotV, mNext, mNever, mBreak, mCont, mDrop, mChain, mPar, mGTup, mGCons, mGNil, pGcd, pI, pI0, pIx, pTimes, pPlus, pEq, pNe, pLen, pSum, pMaxS, pAll, pAny, pTupOf, pLstOf, pIn, pIsB, pIsi, items_tup, items_lst, items_kl, items_mr, items_tab, items_lot, items_fr, decide_true, decide_false, eqP_int, eqP_bl, eqP_str, eqP_tup2, kit_tt, kit_ii, kit_ib, tyP, mEnd, wipeP, List.map_cons, List.map_nil, List.getElem?_cons_zero, List.getElem?_cons_succ, List.set_cons_zero, List.set_cons_succ, atI_zero, atI_one, if_true, if_false, ite_true, ite_false, Bool.false_eq_true, List.length_cons, List.length_nil, Bool.not_true, Bool.not_false]
    rw [eqP_rows hge, decide_eq_true rfl]
    refine ⟨by decide, ?_⟩
    simp only
    rw [if_neg (by decide)]
    subst hR
    obtain ⟨L, hL, hL64, hinf⟩ := rightX_cases hri
    simp only at hL hinf
    clear hl hge hd hgo hri hg
    refine stm_of fun R hR => ?_
    simp only [mLockEN, mDNewN, mDGet2N, mDPutN, mValsN, pLenN, pSortTX, mDNewT, mZipM, mDc, mLenSetL, mDGetT, mDGet2T, mDInT, mDPutT, mLockX, mLockEX, mKeysX, pLstX, pLenX, pMaxT, pSortT, str_to, str_ot, mPar3, mLockV, mLockE, mItemsC, mKeysC, mDGet2, pIsN, isNonP, pRepLM, mTruD, dkOfP, pPopAt, pIndex, mLstRgM, mTruth, pReprA, pLenD, pLstD, mDNew, pRepL, mLenSetN, mDIn, mSortSet, mSortSetL, mRevT, mForC, mSeqC, mLcC, pAbs, pMax2, pMin2, pInt1, mDGet, mDPut, mBM, mBM0, pPop, pAppend, pExtend, pSetL, mSub, mDisp, mPs, mPs0, mRevL, mRevLM, pLstOfM, mTupRg, mRg1, mRg2, pPlusM, lstItems, dictOfP, keyP, keysP, val_left, val_mixed, val_draws, put_draws, mLc, mLcM, mLc2, mFor, mSeqI, mRng1, mRng2, mZip, mEnum, mSl, mNoPart, mPart, mSeq, mAsg, mAsg2, mCB, mCons, mNil, mVar, mC, mOp, mUn, pU, mTup, mLst, mRet, mRetN, mLstM, getl, setl, mName, mCall, mCallK, mIf, mIfS, mTest, mAnd, mOr, mNot, mYes, mAndV, mOrV, mNotV, mNext, mNever, mBreak, mCont, mDrop, mChain, mPar, mGTup, mGCons, mGNil, pGcd, pI, pI0, pIx, pTimes, pPlus, pEq, pNe, pLen, pSum, pMaxS, pAll, pAny, pTupOf, pLstOf, pIn, pIsB, pIsi, items_tup, items_lst, items_kl, items_mr, items_tab, items_lot, items_fr, decide_true, decide_false, eqP_int, eqP_bl, eqP_str, eqP_tup2, kit_tt, kit_ii, kit_ib, tyP, mEnd, wipeP, List.map_cons, List.map_nil, List.getElem?_cons_zero, List.getElem?_cons_succ, List.set_cons_zero, List.set_cons_succ, atI_zero, atI_one, if_true, if_false, ite_true, ite_false, Bool.false_eq_true, List.length_cons, List.length_nil, Bool.not_true, Bool.not_false]
    subst hR
    refine stm_of fun R hR => ?_
    simp only [mLockEN, mDNewN, mDGet2N, mDPutN, mValsN, pLenN, pSortTX, mDNewT, mZipM, mDc, mLenSetL, mDGetT, mDGet2T, mDInT, mDPutT, mLockX, mLockEX, mKeysX, pLstX, pLenX, pMaxT, pSortT, str_to, str_ot, mPar3, mLockV, mLockE, mItemsC, mKeysC, mDGet2, pIsN, isNonP, pRepLM, mTruD, dkOfP, pPopAt, pIndex, mLstRgM, mTruth, pReprA, pLenD, pLstD, mDNew, pRepL, mLenSetN, mDIn, mSortSet, mSortSetL, mRevT, mForC, mSeqC, mLcC, pAbs, pMax2, pMin2, pInt1, mDGet, mDPut, mBM, mBM0, pPop, pAppend, pExtend, pSetL, mSub, mDisp, mPs, mPs0, mRevL, mRevLM, pLstOfM, mTupRg, mRg1, mRg2, pPlusM, lstItems, dictOfP, keyP, keysP, val_left, val_mixed, val_draws, put_draws, mLc, mLcM, mLc2, mFor, mSeqI, mRng1, mRng2, mZip, mEnum, mSl, mNoPart, mPart, mAsg, mAsg2, mCB, mCons, mNil, mVar, mC, mOp, mUn, pU, mTup, mLst, mRet, mRetN, mLstM, getl, setl, mName, mCall, mCallK, mIf, mIfS, mTest, mAnd, mOr, mNot, mYes, mAndV, mOrV, mNotV, mNext, mNever, mBreak, mCont, mDrop, mChain, mPar, mGTup, mGCons, mGNil, pGcd, pI, pI0, pIx, pTimes, pPlus, pEq, pNe, pLen, pSum, pMaxS, pAll, pAny, pTupOf, pLstOf, pIn, pIsB, pIsi, items_tup, items_lst, items_kl, items_mr, items_tab, items_lot, items_fr, decide_true, decide_false, eqP_int, eqP_bl, eqP_str, eqP_tup2, kit_tt, kit_ii, kit_ib, tyP, mEnd, wipeP, List.map_cons, List.map_nil, List.getElem?_cons_zero, List.getElem?_cons_succ, List.set_cons_zero, List.set_cons_succ, atI_zero, atI_one, if_true, if_false, ite_true, ite_false, Bool.false_eq_true, List.length_cons, List.length_nil, Bool.not_true, Bool.not_false, lotP]
    refine for_inv (enc := fun (n : Nat) => PV.int n) (fun pre ρ μ' => (∃ (y13 y14 : Option PV), ρ = [some (.int (w : Nat)), some (lotP ns), some (.int 7), some (.mr μ.length), some (.mr (μ.length + td)), y5, y6, y7, y8, y9, y10, y11, some (.int (prodX pre)), y13, y14]) ∧ μ' = stX μ cs) (done := []) ⟨⟨_, _, rfl⟩, rfl⟩ (fun pre n post ρ μ' e hI N hN => ?_) fun ρ μ' hI => ?_
    · obtain ⟨⟨y13, y14, rfl⟩, rfl⟩ := hI
      have hns : ns = pre ++ n :: post := e
      have hpl : pre.length ≤ 12 := by have := congrArg List.length hns; simp at this; omega
      have hpb := prodX_bd pre.length pre rfl fun k hk => (hn k (by rw [hns]; exact List.mem_append_left _ hk)).2.1
      have hp6 : (64 : Nat) ^ pre.length ≤ 64 ^ 12 := Nat.pow_le_pow_right (by decide) hpl
      have hz : (64 : Nat) ^ 12 < 2 ^ 80 := by decide
      have hn64 := (hn n (by rw [hns]; simp)).2.1
      simp only [mLockEN, mDNewN, mDGet2N, mDPutN, mValsN, pLenN, pSortTX, mDNewT, mZipM, mDc, mLenSetL, mDGetT, mDGet2T, mDInT, mDPutT, mLockX, mLockEX, mKeysX, pLstX, pLenX, pMaxT, pSortT, str_to, str_ot, mPar3, mLockV, mLockE, mItemsC, mKeysC, mDGet2, pIsN, isNonP, pRepLM, mTruD, dkOfP, pPopAt, pIndex, mLstRgM, mTruth, pReprA, pLenD, pLstD, mDNew, pRepL, mLenSetN, mDIn, mSortSet, mSortSetL, mRevT, mForC, mSeqC, mLcC, pAbs, pMax2, pMin2, pInt1, mDGet, mDPut, mBM, mBM0, pPop, pAppend, pExtend, pSetL, mSub, mDisp, mPs, mPs0, mRevL, mRevLM, pLstOfM, mTupRg, mRg1, mRg2, pPlusM, lstItems, dictOfP, keyP, keysP, val_left, val_mixed, val_draws, put_draws, mLc, mLcM, mLc2, mFor, mSeqI, mRng1, mRng2, mZip, mEnum, mSl, mNoPart, mPart, mSeq, mAsg, mAsg2, mCB, mCons, mNil, mVar, mC, mOp, mUn, pU, mTup, mLst, mRet, mRetN, mLstM, getl, setl, mName, mCall, mCallK, mIf, mIfS, mTest, mAnd, mOr, mNot, mYes, mAndV, mOrV, mNotV, mNext, mNever, mBreak, mCont, mDrop, mChain, mPar, mGTup, mGCons, mGNil, pGcd, pI, pI0, pIx, pTimes, pPlus, pEq, pNe, pLen, pSum, pMaxS, pAll, pAny, pTupOf, pLstOf, pIn, pIsB, pIsi, items_tup, items_lst, items_kl, items_mr, items_tab, items_lot, items_fr, decide_true, decide_false, eqP_int, eqP_bl, eqP_str, eqP_tup2, kit_tt, kit_ii, kit_ib, tyP, mEnd, wipeP, List.map_cons, List.map_nil, List.getElem?_cons_zero, List.getElem?_cons_succ, List.set_cons_zero, List.set_cons_succ, atI_zero, atI_one, if_true, if_false, ite_true, ite_false, Bool.false_eq_true, List.length_cons, List.length_nil, Bool.not_true, Bool.not_false]
      refine ⟨mulOk (m := 80) (n := 10) (by omega) (by rw [Int.natAbs_natCast]; omega) (by decide), ?_⟩
      rw [← prodX_snoc]
      exact hN _ _ ⟨⟨_, _, rfl⟩, rfl⟩
    · obtain ⟨⟨y13, y14, rfl⟩, rfl⟩ := hI
      rw [List.nil_append]
      show R _ _
      subst hR
      refine stm_of fun R hR => ?_
      simp only [mLockEN, mDNewN, mDGet2N, mDPutN, mValsN, pLenN, pSortTX, mDNewT, mZipM, mDc, mLenSetL, mDGetT, mDGet2T, mDInT, mDPutT, mLockX, mLockEX, mKeysX, pLstX, pLenX, pMaxT, pSortT, str_to, str_ot, mPar3, mLockV, mLockE, mItemsC, mKeysC, mDGet2, pIsN, isNonP, pRepLM, mTruD, dkOfP, pPopAt, pIndex, mLstRgM, mTruth, pReprA, pLenD, pLstD, mDNew, pRepL, mLenSetN, mDIn, mSortSet, mSortSetL, mRevT, mForC, mSeqC, mLcC, pAbs, pMax2, pMin2, pInt1, mDGet, mDPut, mBM, mBM0, pPop, pAppend, pExtend, pSetL, mSub, mDisp, mPs, mPs0, mRevL, mRevLM, pLstOfM, mTupRg, mRg1, mRg2, pPlusM, lstItems, dictOfP, keyP, keysP, val_left, val_mixed, val_draws, put_draws, mLc, mLcM, mLc2, mFor, mSeqI, mRng1, mRng2, mZip, mEnum, mSl, mNoPart, mPart, mAsg, mAsg2, mCB, mCons, mNil, mVar, mC, mOp, mUn, pU, mTup, mLst, mRet, mRetN, mLstM, getl, setl, mName, mCall, mCallK, mIf, mIfS, mTest, mAnd, mOr, mNot, mYes, mAndV, mOrV, mNotV, mNext, mNever, mBreak, mCont, mDrop, mChain, mPar, mGTup, mGCons, mGNil, pGcd, pI, pI0, pIx, pTimes, pPlus, pEq, pNe, pLen, pSum, pMaxS, pAll, pAny, pTupOf, pLstOf, pIn, pIsB, pIsi, items_tup, items_lst, items_kl, items_mr, items_tab, items_lot, items_fr, decide_true, decide_false, eqP_int, eqP_bl, eqP_str, eqP_tup2, kit_tt, kit_ii, kit_ib, tyP, mEnd, wipeP, List.map_cons, List.map_nil, List.getElem?_cons_zero, List.getElem?_cons_succ, List.set_cons_zero, List.set_cons_succ, atI_zero, atI_one, if_true, if_false, ite_true, ite_false, Bool.false_eq_true, List.length_cons, List.length_nil, Bool.not_true, Bool.not_false]
      rw [tdP_stX hL]
      simp only
      obtain ⟨k1, k2, k3⟩ := tk2_ok (L := L.map fun e => (e.1, PV.mr (μ.length + e.2))) fun e he => by
        obtain ⟨e0, he0, rfl⟩ := List.mem_map.mp he
        obtain ⟨j, kv, t, m, c, _, _, h3, _⟩ := hinf e0 he0
        exact ⟨t, m, h3⟩
      refine ⟨⟨k1, k2, by rw [List.length_map]; exact hL64, k3⟩, fun zs hz => ?_⟩
      have hz2 : zs.Perm (L.map fun e => tkK e.1) := by rw [List.map_map] at hz; exact hz
      obtain ⟨L2', hL2, rfl⟩ := map_perm (fun e : List Int × Nat => tkK e.1) hz2 L rfl
      refine for_inv (enc := fun e : List Int × Nat => tkK e.1) (fun pre ρ μ' => (∃ (z8 z10 z11 z14 : Option PV), ρ = [some (.int (w : Nat)), some (lotP ns), some (.int 7), some (.mr μ.length), some (.mr (μ.length + td)), y5, y6, y7, z8, y9, z10, z11, some (.int (prodX ns)), y13, z14]) ∧ μ' = stX μ cs) (done := []) ⟨⟨_, _, _, _, rfl⟩, rfl⟩ (fun pre e post ρ μ' ee hI N hN => ?_) fun ρ μ' hI => ?_
      · obtain ⟨⟨z8, z10, z11, z14, rfl⟩, rfl⟩ := hI
        obtain ⟨j, kv, t, m, c, f1, f2, f3, f4, f5, f6, f7, f8⟩ := hinf e (hL2.mem_iff.mp (by rw [show L2' = pre ++ e :: post from ee]; simp))
        rw [f3] at f1
        rw [f3, show tkK [t, m] = PV.tup [PV.int t, PV.int m] from rfl]
        simp only [mLockEN, mDNewN, mDGet2N, mDPutN, mValsN, pLenN, pSortTX, mDNewT, mZipM, mDc, mLenSetL, mDGetT, mDGet2T, mDInT, mDPutT, mLockX, mLockEX, mKeysX, pLstX, pLenX, pMaxT, pSortT, str_to, str_ot, mPar3, mLockV, mLockE, mItemsC, mKeysC, mDGet2, pIsN, isNonP, pRepLM, mTruD, dkOfP, pPopAt, pIndex, mLstRgM, mTruth, pReprA, pLenD, pLstD, mDNew, pRepL, mLenSetN, mDIn, mSortSet, mSortSetL, mRevT, mForC, mSeqC, mLcC, pAbs, pMax2, pMin2, pInt1, mDGet, mDPut, mBM, mBM0, pPop, pAppend, pExtend, pSetL, mSub, mDisp, mPs, mPs0, mRevL, mRevLM, pLstOfM, mTupRg, mRg1, mRg2, pPlusM, lstItems, dictOfP, keyP, keysP, val_left, val_mixed, val_draws, put_draws, mLc, mLcM, mLc2, mFor, mSeqI, mRng1, mRng2, mZip, mEnum, mSl, mNoPart, mPart, mAsg, mAsg2, mCB, mCons, mNil, mVar, mC, mOp, mUn, pU, mTup, mLst, mRet, mRetN, mLstM, getl, setl, mName, mCall, mCallK, mIf, mIfS, mTest, mAnd, mOr, mNot, mYes, mAndV, mOrV, mNotV, mNext, mNever, mBreak, mCont, mDrop, mChain, mPar, mGTup, mGCons, mGNil, pGcd, pI, pI0, pIx, pTimes, pPlus, pEq, pNe, pLen, pSum, pMaxS, pAll, pAny, pTupOf, pLstOf, pIn, pIsB, pIsi, items_tup, items_lst, items_kl, items_mr, items_tab, items_lot, items_fr, decide_true, decide_false, eqP_int, eqP_bl, eqP_str, eqP_tup2, kit_tt, kit_ii, kit_ib, tyP, mEnd, wipeP, List.map_cons, List.map_nil, List.getElem?_cons_zero, List.getElem?_cons_succ, List.set_cons_zero, List.set_cons_succ, atI_zero, atI_one, if_true, if_false, ite_true, ite_false, Bool.false_eq_true, List.length_cons, List.length_nil, Bool.not_true, Bool.not_false]
        refine ⟨trivial, ?_⟩
        refine stm_of fun R7 hR7 => ?_
        simp only [mLockEN, mDNewN, mDGet2N, mDPutN, mValsN, pLenN, pSortTX, mDNewT, mZipM, mDc, mLenSetL, mDGetT, mDGet2T, mDInT, mDPutT, mLockX, mLockEX, mKeysX, pLstX, pLenX, pMaxT, pSortT, str_to, str_ot, mPar3, mLockV, mLockE, mItemsC, mKeysC, mDGet2, pIsN, isNonP, pRepLM, mTruD, dkOfP, pPopAt, pIndex, mLstRgM, mTruth, pReprA, pLenD, pLstD, mDNew, pRepL, mLenSetN, mDIn, mSortSet, mSortSetL, mRevT, mForC, mSeqC, mLcC, pAbs, pMax2, pMin2, pInt1, mDGet, mDPut, mBM, mBM0, pPop, pAppend, pExtend, pSetL, mSub, mDisp, mPs, mPs0, mRevL, mRevLM, pLstOfM, mTupRg, mRg1, mRg2, pPlusM, lstItems, dictOfP, keyP, keysP, val_left, val_mixed, val_draws, put_draws, mLc, mLcM, mLc2, mFor, mSeqI, mRng1, mRng2, mZip, mEnum, mSl, mNoPart, mPart, mSeq, mAsg, mAsg2, mCB, mCons, mNil, mVar, mC, mOp, mUn, pU, mTup, mLst, mRet, mRetN, mLstM, getl, setl, mName, mCall, mCallK, mIf, mIfS, mTest, mAnd, mOr, mNot, mYes, mAndV, mOrV, mNotV, mNext, mNever, mBreak, mCont, mDrop, mChain, mPar, mGTup, mGCons, mGNil, pGcd, pI, pI0, pIx, pTimes, pPlus, pEq, pNe, pLen, pSum, pMaxS, pAll, pAny, pTupOf, pLstOf, pIn, pIsB, pIsi, items_tup, items_lst, items_kl, items_mr, items_tab, items_lot, items_fr, decide_true, decide_false, eqP_int, eqP_bl, eqP_str, eqP_tup2, kit_tt, kit_ii, kit_ib, tyP, mEnd, wipeP, List.map_cons, List.map_nil, List.getElem?_cons_zero, List.getElem?_cons_succ, List.set_cons_zero, List.set_cons_succ, atI_zero, atI_one, if_true, if_false, ite_true, ite_false, Bool.false_eq_true, List.length_cons, List.length_nil, Bool.not_true, Bool.not_false]
        rw [tdP_stX hL, show tkP (PV.tup [PV.int t, PV.int m]) = some [t, m] from rfl]
        simp only
        rw [valT_stX f1]
        refine ⟨by decide, ?_⟩
        simp only
        subst hR7
        simp only [mLockEN, mDNewN, mDGet2N, mDPutN, mValsN, pLenN, pSortTX, mDNewT, mZipM, mDc, mLenSetL, mDGetT, mDGet2T, mDInT, mDPutT, mLockX, mLockEX, mKeysX, pLstX, pLenX, pMaxT, pSortT, str_to, str_ot, mPar3, mLockV, mLockE, mItemsC, mKeysC, mDGet2, pIsN, isNonP, pRepLM, mTruD, dkOfP, pPopAt, pIndex, mLstRgM, mTruth, pReprA, pLenD, pLstD, mDNew, pRepL, mLenSetN, mDIn, mSortSet, mSortSetL, mRevT, mForC, mSeqC, mLcC, pAbs, pMax2, pMin2, pInt1, mDGet, mDPut, mBM, mBM0, pPop, pAppend, pExtend, pSetL, mSub, mDisp, mPs, mPs0, mRevL, mRevLM, pLstOfM, mTupRg, mRg1, mRg2, pPlusM, lstItems, dictOfP, keyP, keysP, val_left, val_mixed, val_draws, put_draws, mLc, mLcM, mLc2, mFor, mSeqI, mRng1, mRng2, mZip, mEnum, mSl, mNoPart, mPart, mSeq, mAsg, mAsg2, mCB, mCons, mNil, mVar, mC, mOp, mUn, pU, mTup, mLst, mRet, mRetN, mLstM, getl, setl, mName, mCall, mCallK, mIf, mIfS, mTest, mAnd, mOr, mNot, mYes, mAndV, mOrV, mNotV, mNext, mNever, mBreak, mCont, mDrop, mChain, mPar, mGTup, mGCons, mGNil, pGcd, pI, pI0, pIx, pTimes, pPlus, pEq, pNe, pLen, pSum, pMaxS, pAll, pAny, pTupOf, pLstOf, pIn, pIsB, pIsi, items_tup, items_lst, items_kl, items_mr, items_tab, items_lot, items_fr, decide_true, decide_false, eqP_int, eqP_bl, eqP_str, eqP_tup2, kit_tt, kit_ii, kit_ib, tyP, mEnd, wipeP, List.map_cons, List.map_nil, List.getElem?_cons_zero, List.getElem?_cons_succ, List.set_cons_zero, List.set_cons_succ, atI_zero, atI_one, if_true, if_false, ite_true, ite_false, Bool.false_eq_true, List.length_cons, List.length_nil, Bool.not_true, Bool.not_false]
        rw [tnP_stX f2]
        simp only
        have hpb := prodX_bd ns.length ns rfl fun k hk => (hn k hk).2.1
        have hp6 : (64 : Nat) ^ ns.length ≤ 64 ^ 12 := Nat.pow_le_pow_right (by decide) hl'
        have hz9 : (64 : Nat) ^ 12 < 2 ^ 80 := by decide
        have hgj : (stX μ cs)[μ.length + j]? = some (.nk (kv.map fun e => (e.1, PV.int e.2))) := by rw [stX_get, f2]; rfl
        have hjl : μ.length + j < (stX μ cs).length := (List.getElem?_eq_some_iff.mp hgj).1
        refine ⟨mulOk (m := 80) (n := 20) (by omega) (by omega) (by decide), ?_⟩
        rw [List.length_map, decide_eq_true f4, if_neg (by decide), hgj]
        simp only
        intro o ks
        rw [List.getElem?_set_self hjl]
        refine ⟨by decide, ?_⟩
        simp only
        refine ⟨by rw [List.length_map, List.length_map]; unfold lim; omega, ?_⟩
        rw [List.map_map]
        refine lcC_map (enc := fun p : KN × Int => PV.int p.2) (out := fun p => PV.int p.2) (List.getElem?_set_self hjl) (fun p hp k hk => ?_) ?_
        · simp only [mLockEN, mDNewN, mDGet2N, mDPutN, mValsN, pLenN, pSortTX, mDNewT, mZipM, mDc, mLenSetL, mDGetT, mDGet2T, mDInT, mDPutT, mLockX, mLockEX, mKeysX, pLstX, pLenX, pMaxT, pSortT, str_to, str_ot, mPar3, mLockV, mLockE, mItemsC, mKeysC, mDGet2, pIsN, isNonP, pRepLM, mTruD, dkOfP, pPopAt, pIndex, mLstRgM, mTruth, pReprA, pLenD, pLstD, mDNew, pRepL, mLenSetN, mDIn, mSortSet, mSortSetL, mRevT, mForC, mSeqC, mLcC, pAbs, pMax2, pMin2, pInt1, mDGet, mDPut, mBM, mBM0, pPop, pAppend, pExtend, pSetL, mSub, mDisp, mPs, mPs0, mRevL, mRevLM, pLstOfM, mTupRg, mRg1, mRg2, pPlusM, lstItems, dictOfP, keyP, keysP, val_left, val_mixed, val_draws, put_draws, mLc, mLcM, mLc2, mFor, mSeqI, mRng1, mRng2, mZip, mEnum, mSl, mNoPart, mPart, mSeq, mAsg, mAsg2, mCB, mCons, mNil, mVar, mC, mOp, mUn, pU, mTup, mLst, mRet, mRetN, mLstM, getl, setl, mName, mCall, mCallK, mIf, mIfS, mTest, mAnd, mOr, mNot, mYes, mAndV, mOrV, mNotV, mNext, mNever, mBreak, mCont, mDrop, mChain, mPar, mGTup, mGCons, mGNil, pGcd, pI, pI0, pIx, pTimes, pPlus, pEq, pNe, pLen, pSum, pMaxS, pAll, pAny, pTupOf, pLstOf, pIn, pIsB, pIsi, items_tup, items_lst, items_kl, items_mr, items_tab, items_lot, items_fr, decide_true, decide_false, eqP_int, eqP_bl, eqP_str, eqP_tup2, kit_tt, kit_ii, kit_ib, tyP, mEnd, wipeP, List.map_cons, List.map_nil, List.getElem?_cons_zero, List.getElem?_cons_succ, List.set_cons_zero, List.set_cons_succ, atI_zero, atI_one, if_true, if_false, ite_true, ite_false, Bool.false_eq_true, List.length_cons, List.length_nil, Bool.not_true, Bool.not_false]
          exact hk
        rw [List.nil_append]
        refine ⟨List.getElem?_set_self hjl, ?_⟩
        rw [show (kv.map fun p => PV.int p.2) = (kv.map (·.2)).map PV.int by rw [List.map_map]; rfl, intsP_map]
        refine ⟨by rw [List.length_map]; omega, fun ms m1 m2 => ?_⟩
        rw [one_len m1 m2 (c := c) (by simpa using f5) (fun v hv => by
          obtain ⟨p, hp, rfl⟩ := List.mem_map.mp hv
          exact f6 p hp)]
        rw [decide_eq_true (by decide), if_neg (by decide), List.set_set, set_same hgj]
        exact hN _ _ ⟨⟨_, _, _, _, rfl⟩, rfl⟩
      · obtain ⟨⟨z8, z10, z11, z14, rfl⟩, rfl⟩ := hI
        show R _ _
        subst hR
        simp only [mLockEN, mDNewN, mDGet2N, mDPutN, mValsN, pLenN, pSortTX, mDNewT, mZipM, mDc, mLenSetL, mDGetT, mDGet2T, mDInT, mDPutT, mLockX, mLockEX, mKeysX, pLstX, pLenX, pMaxT, pSortT, str_to, str_ot, mPar3, mLockV, mLockE, mItemsC, mKeysC, mDGet2, pIsN, isNonP, pRepLM, mTruD, dkOfP, pPopAt, pIndex, mLstRgM, mTruth, pReprA, pLenD, pLstD, mDNew, pRepL, mLenSetN, mDIn, mSortSet, mSortSetL, mRevT, mForC, mSeqC, mLcC, pAbs, pMax2, pMin2, pInt1, mDGet, mDPut, mBM, mBM0, pPop, pAppend, pExtend, pSetL, mSub, mDisp, mPs, mPs0, mRevL, mRevLM, pLstOfM, mTupRg, mRg1, mRg2, pPlusM, lstItems, dictOfP, keyP, keysP, val_left, val_mixed, val_draws, put_draws, mLc, mLcM, mLc2, mFor, mSeqI, mRng1, mRng2, mZip, mEnum, mSl, mNoPart, mPart, mSeq, mAsg, mAsg2, mCB, mCons, mNil, mVar, mC, mOp, mUn, pU, mTup, mLst, mRet, mRetN, mLstM, getl, setl, mName, mCall, mCallK, mIf, mIfS, mTest, mAnd, mOr, mNot, mYes, mAndV, mOrV, mNotV, mNext, mNever, mBreak, mCont, mDrop, mChain, mPar, mGTup, mGCons, mGNil, pGcd, pI, pI0, pIx, pTimes, pPlus, pEq, pNe, pLen, pSum, pMaxS, pAll, pAny, pTupOf, pLstOf, pIn, pIsB, pIsi, items_tup, items_lst, items_kl, items_mr, items_tab, items_lot, items_fr, decide_true, decide_false, eqP_int, eqP_bl, eqP_str, eqP_tup2, kit_tt, kit_ii, kit_ib, tyP, mEnd, wipeP, List.map_cons, List.map_nil, List.getElem?_cons_zero, List.getElem?_cons_succ, List.set_cons_zero, List.set_cons_succ, atI_zero, atI_one, if_true, if_false, ite_true, ite_false, Bool.false_eq_true, List.length_cons, List.length_nil, Bool.not_true, Bool.not_false]
        exact fin_drop rfl hQ
  · obtain ⟨l, bs, hl, hla, hb, hb7, hl100, hcase⟩ := turnX_cases ht
    obtain ⟨hlg, hle⟩ := last_get hla
    have hge : (stX μ cs)[μ.length + td]? = some (.lst (l.map lotP)) := by rw [stX_get, hl]; rfl
    have hset : (stX μ cs).set (μ.length + td) (.lst (l.map lotP).dropLast) = stX μ (cs.set td (.rows l.dropLast)) := by
      rw [← stX_set, encC, List.map_dropLast]
    have hlgm : (l.map lotP)[(l.map lotP).length - 1]? = some (lotP bs) := by rw [List.length_map, List.getElem?_map, hlg]; rfl
    have hrb : RwB (rww (2 ^ w) ns bs 1 0) := rwB_of hn hl' (by omega) hb (by omega) (by decide) (by omega)
    simp only [mLockEN, mDNewN, mDGet2N, mDPutN, mValsN, pLenN, pSortTX, mDNewT, mZipM, mDc, mLenSetL, mDGetT, mDGet2T, mDInT, mDPutT, mLockX, mLockEX, mKeysX, pLstX, pLenX, pMaxT, pSortT, str_to, str_ot, mPar3, mLockV, mLockE, mItemsC, mKeysC, mDGet2, pIsN, isNonP, pRepLM, mTruD, dkOfP, pPopAt, pIndex, mLstRgM, mTruth, pReprA, pLenD, pLstD, mDNew, pRepL, mLenSetN, mDIn, mSortSet, mSortSetL, mRevT, mForC, mSeqC, mLcC, pAbs, pMax2, pMin2, pInt1, mDGet, mDPut, mBM, mBM0, pPop, pAppend, pExtend, pSetL, mSub, mDisp, mPs, mPs0, mRevL, mRevLM, pLstOfM, mTupRg, mRg1, mRg2, pPlusM, lstItems, dictOfP, keyP, keysP, val_left, val_mixed, val_draws, put_draws, mLc, mLcM, mLc2, mFor, mSeqI, mRng1, mRng2, mZip, mEnum, mSl, mNoPart, mPart, mAsg, mAsg2, mCB, mCons, mNil, mVar, mC, mOp, mUn, pU, mTup, mLst, mRet, mRetN, mLstM, getl, setl, mName, mCall, mCallK, mIf, mIfS, mTest, mAnd, mOr, mNot, mYes, mAndV, mOrV, mNotV, mNext, mNever, mBreak, mCont, mDrop, mChain, mPar, mGTup, mGCons, mGNil, pGcd, pI, pI0, pIx, pTimes, pPlus, pEq, pNe, pLen, pSum, pMaxS, pAll, pAny, pTupOf, pLstOf, pIn, pIsB, pIsi, items_tup, items_lst, items_kl, items_mr, items_tab, items_lot, items_fr, decide_true, decide_false, eqP_int, eqP_bl, eqP_str, eqP_tup2, kit_tt, kit_ii, kit_ib, tyP, mEnd, wipeP, List.map_cons, List.map_nil, List.getElem?_cons_zero, List.getElem?_cons_succ, List.set_cons_zero, List.set_cons_succ, atI_zero, atI_one, if_true, if_false, ite_true, ite_false, Bool.false_eq_true, List.length_cons, List.length_nil, Bool.not_true, Bool.not_false]
    rw [eqP_rows hge, decide_eq_false hle]
    refine ⟨by decide, ?_⟩
    simp only
    rw [if_pos (by decide)]
    refine stm_of fun R2 hR2 => ?_
    simp only [mLockEN, mDNewN, mDGet2N, mDPutN, mValsN, pLenN, pSortTX, mDNewT, mZipM, mDc, mLenSetL, mDGetT, mDGet2T, mDInT, mDPutT, mLockX, mLockEX, mKeysX, pLstX, pLenX, pMaxT, pSortT, str_to, str_ot, mPar3, mLockV, mLockE, mItemsC, mKeysC, mDGet2, pIsN, isNonP, pRepLM, mTruD, dkOfP, pPopAt, pIndex, mLstRgM, mTruth, pReprA, pLenD, pLstD, mDNew, pRepL, mLenSetN, mDIn, mSortSet, mSortSetL, mRevT, mForC, mSeqC, mLcC, pAbs, pMax2, pMin2, pInt1, mDGet, mDPut, mBM, mBM0, pPop, pAppend, pExtend, pSetL, mSub, mDisp, mPs, mPs0, mRevL, mRevLM, pLstOfM, mTupRg, mRg1, mRg2, pPlusM, lstItems, dictOfP, keyP, keysP, val_left, val_mixed, val_draws, put_draws, mLc, mLcM, mLc2, mFor, mSeqI, mRng1, mRng2, mZip, mEnum, mSl, mNoPart, mPart, mSeq, mAsg, mAsg2, mCB, mCons, mNil, mVar, mC, mOp, mUn, pU, mTup, mLst, mRet, mRetN, mLstM, getl, setl, mName, mCall, mCallK, mIf, mIfS, mTest, mAnd, mOr, mNot, mYes, mAndV, mOrV, mNotV, mNext, mNever, mBreak, mCont, mDrop, mChain, mPar, mGTup, mGCons, mGNil, pGcd, pI, pI0, pIx, pTimes, pPlus, pEq, pNe, pLen, pSum, pMaxS, pAll, pAny, pTupOf, pLstOf, pIn, pIsB, pIsi, items_tup, items_lst, items_kl, items_mr, items_tab, items_lot, items_fr, decide_true, decide_false, eqP_int, eqP_bl, eqP_str, eqP_tup2, kit_tt, kit_ii, kit_ib, tyP, mEnd, wipeP, List.map_cons, List.map_nil, List.getElem?_cons_zero, List.getElem?_cons_succ, List.set_cons_zero, List.set_cons_succ, atI_zero, atI_one, if_true, if_false, ite_true, ite_false, Bool.false_eq_true, List.length_cons, List.length_nil, Bool.not_true, Bool.not_false]
    rw [hge]
    simp only
    rw [hlgm]
    simp only
    rw [hset]
    subst hR2
    refine stm_of fun R2 hR2 => ?_
    simp only [mLockEN, mDNewN, mDGet2N, mDPutN, mValsN, pLenN, pSortTX, mDNewT, mZipM, mDc, mLenSetL, mDGetT, mDGet2T, mDInT, mDPutT, mLockX, mLockEX, mKeysX, pLstX, pLenX, pMaxT, pSortT, str_to, str_ot, mPar3, mLockV, mLockE, mItemsC, mKeysC, mDGet2, pIsN, isNonP, pRepLM, mTruD, dkOfP, pPopAt, pIndex, mLstRgM, mTruth, pReprA, pLenD, pLstD, mDNew, pRepL, mLenSetN, mDIn, mSortSet, mSortSetL, mRevT, mForC, mSeqC, mLcC, pAbs, pMax2, pMin2, pInt1, mDGet, mDPut, mBM, mBM0, pPop, pAppend, pExtend, pSetL, mSub, mDisp, mPs, mPs0, mRevL, mRevLM, pLstOfM, mTupRg, mRg1, mRg2, pPlusM, lstItems, dictOfP, keyP, keysP, val_left, val_mixed, val_draws, put_draws, mLc, mLcM, mLc2, mFor, mSeqI, mRng1, mRng2, mZip, mEnum, mSl, mNoPart, mPart, mSeq, mAsg, mAsg2, mCB, mCons, mNil, mVar, mC, mOp, mUn, pU, mTup, mLst, mRet, mRetN, mLstM, getl, setl, mName, mCall, mCallK, mIf, mIfS, mTest, mAnd, mOr, mNot, mYes, mAndV, mOrV, mNotV, mNext, mNever, mBreak, mCont, mDrop, mChain, mPar, mGTup, mGCons, mGNil, pGcd, pI, pI0, pIx, pTimes, pPlus, pEq, pNe, pLen, pSum, pMaxS, pAll, pAny, pTupOf, pLstOf, pIn, pIsB, pIsi, items_tup, items_lst, items_kl, items_mr, items_tab, items_lot, items_fr, decide_true, decide_false, eqP_int, eqP_bl, eqP_str, eqP_tup2, kit_tt, kit_ii, kit_ib, tyP, mEnd, wipeP, List.map_cons, List.map_nil, List.getElem?_cons_zero, List.getElem?_cons_succ, List.set_cons_zero, List.set_cons_succ, atI_zero, atI_one, if_true, if_false, ite_true, ite_false, Bool.false_eq_true, List.length_cons, List.length_nil, Bool.not_true, Bool.not_false, S_row_wanted]
    refine ⟨trivial, w, ns, bs, rfl, w1, w2, hn, hl', hb, by omega, ?_⟩
    subst hR2
    refine stm_of fun R2 hR2 => ?_
    simp only [mLockEN, mDNewN, mDGet2N, mDPutN, mValsN, pLenN, pSortTX, mDNewT, mZipM, mDc, mLenSetL, mDGetT, mDGet2T, mDInT, mDPutT, mLockX, mLockEX, mKeysX, pLstX, pLenX, pMaxT, pSortT, str_to, str_ot, mPar3, mLockV, mLockE, mItemsC, mKeysC, mDGet2, pIsN, isNonP, pRepLM, mTruD, dkOfP, pPopAt, pIndex, mLstRgM, mTruth, pReprA, pLenD, pLstD, mDNew, pRepL, mLenSetN, mDIn, mSortSet, mSortSetL, mRevT, mForC, mSeqC, mLcC, pAbs, pMax2, pMin2, pInt1, mDGet, mDPut, mBM, mBM0, pPop, pAppend, pExtend, pSetL, mSub, mDisp, mPs, mPs0, mRevL, mRevLM, pLstOfM, mTupRg, mRg1, mRg2, pPlusM, lstItems, dictOfP, keyP, keysP, val_left, val_mixed, val_draws, put_draws, mLc, mLcM, mLc2, mFor, mSeqI, mRng1, mRng2, mZip, mEnum, mSl, mNoPart, mPart, mSeq, mAsg, mAsg2, mCB, mCons, mNil, mVar, mC, mOp, mUn, pU, mTup, mLst, mRet, mRetN, mLstM, getl, setl, mName, mCall, mCallK, mIf, mIfS, mTest, mAnd, mOr, mNot, mYes, mAndV, mOrV, mNotV, mNext, mNever, mBreak, mCont, mDrop, mChain, mPar, mGTup, mGCons, mGNil, pGcd, pI, pI0, pIx, pTimes, pPlus, pEq, pNe, pLen, pSum, pMaxS, pAll, pAny, pTupOf, pLstOf, pIn, pIsB, pIsi, items_tup, items_lst, items_kl, items_mr, items_tab, items_lot, items_fr, decide_true, decide_false, eqP_int, eqP_bl, eqP_str, eqP_tup2, kit_tt, kit_ii, kit_ib, tyP, mEnd, wipeP, List.map_cons, List.map_nil, List.getElem?_cons_zero, List.getElem?_cons_succ, List.set_cons_zero, List.set_cons_succ, atI_zero, atI_one, if_true, if_false, ite_true, ite_false, Bool.false_eq_true, List.length_cons, List.length_nil, Bool.not_true, Bool.not_false, S__law_row_wanted, -pReprA]
    refine pReprA_row hrb ?_
    refine ⟨trivial, w, ns, bs, rfl, w1, w2, hn, hl', hb, by omega, ?_⟩
    refine pReprA_row hrb ?_
    simp only [eqP_str, decide_true, Bool.not_true, Bool.false_eq_true, if_false]
    subst hR2
    refine stm_of fun R2 hR2 => ?_
    simp only [mLockEN, mDNewN, mDGet2N, mDPutN, mValsN, pLenN, pSortTX, mDNewT, mZipM, mDc, mLenSetL, mDGetT, mDGet2T, mDInT, mDPutT, mLockX, mLockEX, mKeysX, pLstX, pLenX, pMaxT, pSortT, str_to, str_ot, mPar3, mLockV, mLockE, mItemsC, mKeysC, mDGet2, pIsN, isNonP, pRepLM, mTruD, dkOfP, pPopAt, pIndex, mLstRgM, mTruth, pReprA, pLenD, pLstD, mDNew, pRepL, mLenSetN, mDIn, mSortSet, mSortSetL, mRevT, mForC, mSeqC, mLcC, pAbs, pMax2, pMin2, pInt1, mDGet, mDPut, mBM, mBM0, pPop, pAppend, pExtend, pSetL, mSub, mDisp, mPs, mPs0, mRevL, mRevLM, pLstOfM, mTupRg, mRg1, mRg2, pPlusM, lstItems, dictOfP, keyP, keysP, val_left, val_mixed, val_draws, put_draws, mLc, mLcM, mLc2, mFor, mSeqI, mRng1, mRng2, mZip, mEnum, mSl, mNoPart, mPart, mSeq, mAsg, mAsg2, mCB, mCons, mNil, mVar, mC, mOp, mUn, pU, mTup, mLst, mRet, mRetN, mLstM, getl, setl, mName, mCall, mCallK, mIf, mIfS, mTest, mAnd, mOr, mNot, mYes, mAndV, mOrV, mNotV, mNext, mNever, mBreak, mCont, mDrop, mChain, mPar, mGTup, mGCons, mGNil, pGcd, pI, pI0, pIx, pTimes, pPlus, pEq, pNe, pLen, pSum, pMaxS, pAll, pAny, pTupOf, pLstOf, pIn, pIsB, pIsi, items_tup, items_lst, items_kl, items_mr, items_tab, items_lot, items_fr, decide_true, decide_false, eqP_int, eqP_bl, eqP_str, eqP_tup2, kit_tt, kit_ii, kit_ib, tyP, mEnd, wipeP, List.map_cons, List.map_nil, List.getElem?_cons_zero, List.getElem?_cons_succ, List.set_cons_zero, List.set_cons_succ, atI_zero, atI_one, if_true, if_false, ite_true, ite_false, Bool.false_eq_true, List.length_cons, List.length_nil, Bool.not_true, Bool.not_false, isNon_row, lotP, List.length_map]
    have htd : td < cs.length := (List.getElem?_eq_some_iff.mp hl).1
    have hge2 : (stX μ (cs.set td (.rows l.dropLast)))[μ.length + td]? = some (.lst (l.dropLast.map lotP)) := by
      rw [stX_get, List.getElem?_set_self htd]; rfl
    rcases hcase with ⟨hx, hb6, rfl⟩ | ⟨hx, hb6, rfl⟩ | ⟨x, L, kv, jj, hx, hxt, hL, hj, hkv, hkl, hLl, rfl⟩
    · rw [hx]
      simp only [rowP, if_true]
      rw [decide_eq_true (show ((bs.length : Nat) : Int) < 7 by omega), if_pos rfl, hge2]
      refine ⟨by decide, by unfold lim; omega, by decide, by unfold lim; omega, by decide, ?_⟩
      simp only
      have hdl : l.dropLast.length ≤ 100 := by rw [List.length_dropLast]; omega
      refine ⟨by rw [List.length_map]; simp only [List.length_cons, List.length_nil]; unfold lim; omega, ?_⟩
      rw [show PV.tup ((bs.map fun (n : Nat) => PV.int n) ++ [PV.int 0]) = lotP (bs ++ [0]) from lot_snoc' bs 0, show PV.tup ((bs.map fun (n : Nat) => PV.int n) ++ [PV.int 1]) = lotP (bs ++ [1]) from lot_snoc' bs 1, show MO.lst (l.dropLast.map lotP ++ [lotP (bs ++ [0]), lotP (bs ++ [1])]) = encC μ.length (.rows (l.dropLast ++ [bs ++ [0], bs ++ [1]])) by rw [encC, List.map_append]; rfl, stX_app, stX_len, List.length_set]
      subst hR2
      simp only [mLockEN, mDNewN, mDGet2N, mDPutN, mValsN, pLenN, pSortTX, mDNewT, mZipM, mDc, mLenSetL, mDGetT, mDGet2T, mDInT, mDPutT, mLockX, mLockEX, mKeysX, pLstX, pLenX, pMaxT, pSortT, str_to, str_ot, mPar3, mLockV, mLockE, mItemsC, mKeysC, mDGet2, pIsN, isNonP, pRepLM, mTruD, dkOfP, pPopAt, pIndex, mLstRgM, mTruth, pReprA, pLenD, pLstD, mDNew, pRepL, mLenSetN, mDIn, mSortSet, mSortSetL, mRevT, mForC, mSeqC, mLcC, pAbs, pMax2, pMin2, pInt1, mDGet, mDPut, mBM, mBM0, pPop, pAppend, pExtend, pSetL, mSub, mDisp, mPs, mPs0, mRevL, mRevLM, pLstOfM, mTupRg, mRg1, mRg2, pPlusM, lstItems, dictOfP, keyP, keysP, val_left, val_mixed, val_draws, put_draws, mLc, mLcM, mLc2, mFor, mSeqI, mRng1, mRng2, mZip, mEnum, mSl, mNoPart, mPart, mSeq, mAsg, mAsg2, mCB, mCons, mNil, mVar, mC, mOp, mUn, pU, mTup, mLst, mRet, mRetN, mLstM, getl, setl, mName, mCall, mCallK, mIf, mIfS, mTest, mAnd, mOr, mNot, mYes, mAndV, mOrV, mNotV, mNext, mNever, mBreak, mCont, mDrop, mChain, mPar, mGTup, mGCons, mGNil, pGcd, pI, pI0, pIx, pTimes, pPlus, pEq, pNe, pLen, pSum, pMaxS, pAll, pAny, pTupOf, pLstOf, pIn, pIsB, pIsi, items_tup, items_lst, items_kl, items_mr, items_tab, items_lot, items_fr, decide_true, decide_false, eqP_int, eqP_bl, eqP_str, eqP_tup2, kit_tt, kit_ii, kit_ib, tyP, mEnd, wipeP, List.map_cons, List.map_nil, List.getElem?_cons_zero, List.getElem?_cons_succ, List.set_cons_zero, List.set_cons_succ, atI_zero, atI_one, if_true, if_false, ite_true, ite_false, Bool.false_eq_true, List.length_cons, List.length_nil, Bool.not_true, Bool.not_false, rowP]
      exact ⟨i, by omega, _, _, _, _, _, _, _, _, _, _, _, _, rfl, rfl, hg2⟩
    · rw [hx]
      simp only [rowP, if_true]
      rw [decide_eq_false (show ¬ ((bs.length : Nat) : Int) < 7 by omega), if_neg (by decide)]
      subst hR2
      simp only [mLockEN, mDNewN, mDGet2N, mDPutN, mValsN, pLenN, pSortTX, mDNewT, mZipM, mDc, mLenSetL, mDGetT, mDGet2T, mDInT, mDPutT, mLockX, mLockEX, mKeysX, pLstX, pLenX, pMaxT, pSortT, str_to, str_ot, mPar3, mLockV, mLockE, mItemsC, mKeysC, mDGet2, pIsN, isNonP, pRepLM, mTruD, dkOfP, pPopAt, pIndex, mLstRgM, mTruth, pReprA, pLenD, pLstD, mDNew, pRepL, mLenSetN, mDIn, mSortSet, mSortSetL, mRevT, mForC, mSeqC, mLcC, pAbs, pMax2, pMin2, pInt1, mDGet, mDPut, mBM, mBM0, pPop, pAppend, pExtend, pSetL, mSub, mDisp, mPs, mPs0, mRevL, mRevLM, pLstOfM, mTupRg, mRg1, mRg2, pPlusM, lstItems, dictOfP, keyP, keysP, val_left, val_mixed, val_draws, put_draws, mLc, mLcM, mLc2, mFor, mSeqI, mRng1, mRng2, mZip, mEnum, mSl, mNoPart, mPart, mSeq, mAsg, mAsg2, mCB, mCons, mNil, mVar, mC, mOp, mUn, pU, mTup, mLst, mRet, mRetN, mLstM, getl, setl, mName, mCall, mCallK, mIf, mIfS, mTest, mAnd, mOr, mNot, mYes, mAndV, mOrV, mNotV, mNext, mNever, mBreak, mCont, mDrop, mChain, mPar, mGTup, mGCons, mGNil, pGcd, pI, pI0, pIx, pTimes, pPlus, pEq, pNe, pLen, pSum, pMaxS, pAll, pAny, pTupOf, pLstOf, pIn, pIsB, pIsi, items_tup, items_lst, items_kl, items_mr, items_tab, items_lot, items_fr, decide_true, decide_false, eqP_int, eqP_bl, eqP_str, eqP_tup2, kit_tt, kit_ii, kit_ib, tyP, mEnd, wipeP, List.map_cons, List.map_nil, List.getElem?_cons_zero, List.getElem?_cons_succ, List.set_cons_zero, List.set_cons_succ, atI_zero, atI_one, if_true, if_false, ite_true, ite_false, Bool.false_eq_true, List.length_cons, List.length_nil, Bool.not_true, Bool.not_false, rowP]
      exact ⟨i, by omega, _, _, _, _, _, _, _, _, _, _, _, _, rfl, rfl, hg2⟩
    · rw [hx]
      simp only [rowP, Bool.false_eq_true, if_false]
      subst hR2
      simp only [mLockEN, mDNewN, mDGet2N, mDPutN, mValsN, pLenN, pSortTX, mDNewT, mZipM, mDc, mLenSetL, mDGetT, mDGet2T, mDInT, mDPutT, mLockX, mLockEX, mKeysX, pLstX, pLenX, pMaxT, pSortT, str_to, str_ot, mPar3, mLockV, mLockE, mItemsC, mKeysC, mDGet2, pIsN, isNonP, pRepLM, mTruD, dkOfP, pPopAt, pIndex, mLstRgM, mTruth, pReprA, pLenD, pLstD, mDNew, pRepL, mLenSetN, mDIn, mSortSet, mSortSetL, mRevT, mForC, mSeqC, mLcC, pAbs, pMax2, pMin2, pInt1, mDGet, mDPut, mBM, mBM0, pPop, pAppend, pExtend, pSetL, mSub, mDisp, mPs, mPs0, mRevL, mRevLM, pLstOfM, mTupRg, mRg1, mRg2, pPlusM, lstItems, dictOfP, keyP, keysP, val_left, val_mixed, val_draws, put_draws, mLc, mLcM, mLc2, mFor, mSeqI, mRng1, mRng2, mZip, mEnum, mSl, mNoPart, mPart, mSeq, mAsg, mAsg2, mCB, mCons, mNil, mVar, mC, mOp, mUn, pU, mTup, mLst, mRet, mRetN, mLstM, getl, setl, mName, mCall, mCallK, mIf, mIfS, mTest, mAnd, mOr, mNot, mYes, mAndV, mOrV, mNotV, mNext, mNever, mBreak, mCont, mDrop, mChain, mPar, mGTup, mGCons, mGNil, pGcd, pI, pI0, pIx, pTimes, pPlus, pEq, pNe, pLen, pSum, pMaxS, pAll, pAny, pTupOf, pLstOf, pIn, pIsB, pIsi, items_tup, items_lst, items_kl, items_mr, items_tab, items_lot, items_fr, decide_true, decide_false, eqP_int, eqP_bl, eqP_str, eqP_tup2, kit_tt, kit_ii, kit_ib, tyP, mEnd, wipeP, List.map_cons, List.map_nil, List.getElem?_cons_zero, List.getElem?_cons_succ, List.set_cons_zero, List.set_cons_succ, atI_zero, atI_one, if_true, if_false, ite_true, ite_false, Bool.false_eq_true, List.length_cons, List.length_nil, Bool.not_true, Bool.not_false, restP]
      rw [atI_two]
      simp only [eqP_int]
      rw [List.length_map, hxt, decide_eq_true rfl]
      rw [if_neg (by decide)]
      rw [hxt] at hj hg2
      have hL0 : (cs.set td (.rows l.dropLast))[0]? = some (.lots L) := by
        rw [List.getElem?_append_left (by rw [List.length_set]; omega)] at hL
        exact hL
      have hc3 := stX_two (μ := μ) hL hkv (.lot (ptX kv (x.1.map fun (i : Nat) => (i : Int), ((x.2.2.1 : Nat) : Int)) ((fdX kv (x.1.map fun (i : Nat) => (i : Int), ((x.2.2.1 : Nat) : Int))).getD 0 + 1)))
      refine ⟨trivial, trivial, by rw [tdP_stX hL0]; rfl, by decide, ?_⟩
      rw [show stX μ (cs.set td (.rows l.dropLast)) ++ [MO.nk []] = stX μ (cs.set td (.rows l.dropLast) ++ [.lot []]) from stX_app μ _ (.lot []), stX_len, List.length_set, tdP_stX hL, tkP_two]
      simp only
      have ej : (valT (L.map fun e => (e.1, PV.mr (μ.length + e.2))) [((bs.length : Nat) : Int), ((x.2.1 : Nat) : Int)]).getD (PV.mr (μ.length + cs.length)) = PV.mr (μ.length + jj) := by
        rw [valT_fdX, fdX_map (fun (i : Nat) => PV.mr (μ.length + i)), map_getD (fun (i : Nat) => PV.mr (μ.length + i)), ← hj]
      rw [ej, tnP_stX hkv, nkP_lot]
      refine ⟨rfl, by decide, ?_⟩
      simp only
      have ev : (valNT (kv.map fun e => (e.1, PV.int e.2)) (x.1.map fun (i : Nat) => (i : Int), ((x.2.2.1 : Nat) : Int))).getD (PV.int 0) = PV.int ((fdX kv (x.1.map fun (i : Nat) => (i : Int), ((x.2.2.1 : Nat) : Int))).getD 0) := by
        rw [valNT_fdX, fdX_map PV.int, map_getD PV.int]
      rw [ev]
      simp only
      refine ⟨by decide, ?_⟩
      rw [show (stX μ (cs.set td (.rows l.dropLast) ++ [.lot []]))[μ.length + jj]? = some (.nk (kv.map fun e => (e.1, PV.int e.2))) by rw [stX_get, hkv]; rfl]
      simp only
      refine ⟨by rw [List.length_map]; unfold lim; omega, by decide, ?_⟩
      rw [putNT_ptX, ptX_map PV.int, show MO.nk ((ptX kv (x.1.map fun (i : Nat) => (i : Int), ((x.2.2.1 : Nat) : Int)) ((fdX kv (x.1.map fun (i : Nat) => (i : Int), ((x.2.2.1 : Nat) : Int))).getD 0 + 1)).map fun e => (e.1, PV.int e.2)) = encC μ.length (.lot (ptX kv (x.1.map fun (i : Nat) => (i : Int), ((x.2.2.1 : Nat) : Int)) ((fdX kv (x.1.map fun (i : Nat) => (i : Int), ((x.2.2.1 : Nat) : Int))).getD 0 + 1))) from rfl, stX_set]
      have hg0 := stX_get μ ((cs.set td (CX.rows l.dropLast) ++ [CX.lot []]).set jj (.lot (ptX kv (x.1.map fun (i : Nat) => (i : Int), ((x.2.2.1 : Nat) : Int)) ((fdX kv (x.1.map fun (i : Nat) => (i : Int), ((x.2.2.1 : Nat) : Int))).getD 0 + 1)))) 0
      have hs0 := fun c => stX_set μ ((cs.set td (CX.rows l.dropLast) ++ [CX.lot []]).set jj (.lot (ptX kv (x.1.map fun (i : Nat) => (i : Int), ((x.2.2.1 : Nat) : Int)) ((fdX kv (x.1.map fun (i : Nat) => (i : Int), ((x.2.2.1 : Nat) : Int))).getD 0 + 1)))) 0 c
      rw [Nat.add_zero, hc3] at hg0
      rw [hg0]
      simp only [Option.map_some, encC]
      refine ⟨by rw [List.length_map]; unfold lim; omega, i, by omega, _, td, _, _, _, _, _, _, _, _, _, _, rfl, ?_, hg2⟩
      rw [putT_ptX, ptX_map (fun (i : Nat) => PV.mr (μ.length + i))]
      exact hs0 (.lots (ptX L [((bs.length : Nat) : Int), ((x.2.1 : Nat) : Int)] jj))
abbrev N__law_one_by_one : List Str := ["_law_w", "_law_wants", "_law_bits_here", "_law_rest", "_law_found", "_law_taken", "_law_n", "_law_told"]
theorem sc__law_one_by_one : FnScope N__law_one_by_one ["_law_w", "_law_wants", "_law_bits_here"] (defScope s__law_one_by_one) := ⟨rfl, rfl, rfl, by decide +kernel, rfl, by decide +kernel, by decide +kernel⟩
theorem ok__law_one_by_one (B : Blt mg) (h__law_one_by_one : Own K mg "_law_one_by_one" s__law_one_by_one) (k_wanted : Ok P w K mg base 6 "wanted" s_wanted ["w", "rest", "n", "bits"] S_wanted) : Ok P w K mg base 7 "_law_one_by_one" s__law_one_by_one ["_law_w", "_law_wants", "_law_bits_here"] S__law_one_by_one := by
  obtain ⟨f_s, fd_s, F_s, g_s⟩ := h__law_one_by_one
  obtain ⟨f_wanted, fd_wanted, F_wanted, g_wanted, b_wanted, G_wanted⟩ := k_wanted
  refine ⟨f_s, fd_s, F_s, g_s, F_s.binds (fun _ _ _ _ _ _ us hl => match us, hl with | [_, _, _], _ => rfl), FnG.of F_s sc__law_one_by_one (fun xs μ Q h => by first | exact h.1 | exact h.2.1 | (obtain ⟨⟩ := h)) fun cdv A outer s H hr hgd => ⟨_, _, (pss_cons (ps_asg (pe_tup (pa_cons (pe_tup (pa_cons pe_int (pa_cons pe_int pa_nil))) (pa_cons (pe_tup pa_nil) (pa_cons pe_int pa_nil)))) (pg_tup (n := 3) rfl (pgs_cons (pg_name (i := 3) sc__law_one_by_one.nd rfl (Or.inl rfl)) (pgs_cons (pg_name (i := 4) sc__law_one_by_one.nd rfl (Or.inl rfl)) (pgs_cons (pg_name (i := 5) sc__law_one_by_one.nd rfl (Or.inl rfl)) pgs_nil)))))
 (pss_cons (ps_for PassesOwn.never rfl (pi_seq (pv 1)) (pg_name (i := 6) sc__law_one_by_one.nd rfl (Or.inl rfl))
 (pss_cons (ps_set (i := 7) sc__law_one_by_one.nd rfl (Or.inl rfl) (pe_callG (G_wanted.mono (by decide)) hr hgd (by rfl) g_wanted F_wanted.kp b_wanted (pa_cons (pv 0) (pa_cons (pv 3) (pa_cons (pv 6) (pa_cons (pe_slice sl_any (pv 2) (po_some (pv 5)) po_none) pa_nil))))))
 (pss_cons (ps_if (pt_cmpR op_isNn (pv 7) pe_non (nomark _))
 (pss_one (ps_ret pe_non))
 pss_nil)
 (pss_one (ps_par3 (i := 4) (j := 3) (l := 5) (by rfl) sc__law_one_by_one.nd rfl rfl rfl (by decide) (by decide) (by decide) rfl rfl rfl (pa_cons (pe_op op_plus (pv 4) (pe_tup (pa_cons (pe_ix ix_seq (pv 7) pe_int (fun _ _ => rfl)) pa_nil))) (pa_cons (pe_ix ix_seq (pv 7) pe_int (fun _ _ => rfl)) (pa_cons (pe_op op_plus (pv 5) (pe_ix ix_seq (pv 7) pe_int (fun _ _ => rfl))) pa_nil))) (by rfl))))))
 (pss_one (ps_ret (pe_tup (pa_cons (pv 4) (pa_cons (pv 3) (pa_cons (pv 5) pa_nil)))))))), (by (try dsimp only [cxOf]); exact inferInstance), ?_⟩⟩
  intro xs μ Q hS
  obtain ⟨_, w, ns, bs, rfl, w1, w2, hn, hl, hb, hbl, hQ⟩ := hS
  rw [show startP N__law_one_by_one [.int w, lotP ns, lotP bs] = [some (.int w), some (lotP ns), some (lotP bs), none, none, none, none, none] from rfl]
  refine stm_of fun R hR => ?_
  simp only [mLockEN, mDNewN, mDGet2N, mDPutN, mValsN, pLenN, pSortTX, mDNewT, mZipM, mDc, mLenSetL, mDGetT, mDGet2T, mDInT, mDPutT, mLockX, mLockEX, mKeysX, pLstX, pLenX, pMaxT, pSortT, str_to, str_ot, mPar3, mLockV, mLockE, mItemsC, mKeysC, mDGet2, pIsN, isNonP, pRepLM, mTruD, dkOfP, pPopAt, pIndex, mLstRgM, mTruth, pReprA, pLenD, pLstD, mDNew, pRepL, mLenSetN, mDIn, mSortSet, mSortSetL, mRevT, mForC, mSeqC, mLcC, pAbs, pMax2, pMin2, pInt1, mDGet, mDPut, mBM, mBM0, pPop, pAppend, pExtend, pSetL, mSub, mDisp, mPs, mPs0, mRevL, mRevLM, pLstOfM, mTupRg, mRg1, mRg2, pPlusM, lstItems, dictOfP, keyP, keysP, val_left, val_mixed, val_draws, put_draws, mLc, mLcM, mLc2, mFor, mSeqI, mRng1, mRng2, mZip, mEnum, mSl, mNoPart, mPart, mSeq, mAsg, mAsg2, mCB, mCons, mNil, mVar, mC, mOp, mUn, pU, mTup, mLst, mRet, mRetN, mLstM, getl, setl, mName, mCall, mCallK, mIf, mIfS, mTest, mAnd, mOr, mNot, mYes, mAndV, mOrV, mNotV, mNext, mNever, mBreak, mCont, mDrop, mChain, mPar, mGTup, mGCons, mGNil, pGcd, pI, pI0, pIx, pTimes, pPlus, pEq, pNe, pLen, pSum, pMaxS, pAll, pAny, pTupOf, pLstOf, pIn, pIsB, pIsi, items_tup, items_lst, items_kl, items_mr, items_tab, items_lot, items_fr, decide_true, decide_false, eqP_int, eqP_bl, eqP_str, eqP_tup2, kit_tt, kit_ii, kit_ib, tyP, mEnd, wipeP, List.map_cons, List.map_nil, List.getElem?_cons_zero, List.getElem?_cons_succ, List.set_cons_zero, List.set_cons_succ, atI_zero, atI_one, if_true, if_false, ite_true, ite_false, Bool.false_eq_true, List.length_cons, List.length_nil, Bool.not_true, Bool.not_false]
  refine ⟨by decide, by decide, by decide, trivial, ?_⟩
  subst hR
  refine stm_of fun R1 hR1 => ?_
  simp only [mLockEN, mDNewN, mDGet2N, mDPutN, mValsN, pLenN, pSortTX, mDNewT, mZipM, mDc, mLenSetL, mDGetT, mDGet2T, mDInT, mDPutT, mLockX, mLockEX, mKeysX, pLstX, pLenX, pMaxT, pSortT, str_to, str_ot, mPar3, mLockV, mLockE, mItemsC, mKeysC, mDGet2, pIsN, isNonP, pRepLM, mTruD, dkOfP, pPopAt, pIndex, mLstRgM, mTruth, pReprA, pLenD, pLstD, mDNew, pRepL, mLenSetN, mDIn, mSortSet, mSortSetL, mRevT, mForC, mSeqC, mLcC, pAbs, pMax2, pMin2, pInt1, mDGet, mDPut, mBM, mBM0, pPop, pAppend, pExtend, pSetL, mSub, mDisp, mPs, mPs0, mRevL, mRevLM, pLstOfM, mTupRg, mRg1, mRg2, pPlusM, lstItems, dictOfP, keyP, keysP, val_left, val_mixed, val_draws, put_draws, mLc, mLcM, mLc2, mFor, mSeqI, mRng1, mRng2, mZip, mEnum, mSl, mNoPart, mPart, mAsg, mAsg2, mCB, mCons, mNil, mVar, mC, mOp, mUn, pU, mTup, mLst, mRet, mRetN, mLstM, getl, setl, mName, mCall, mCallK, mIf, mIfS, mTest, mAnd, mOr, mNot, mYes, mAndV, mOrV, mNotV, mNext, mNever, mBreak, mCont, mDrop, mChain, mPar, mGTup, mGCons, mGNil, pGcd, pI, pI0, pIx, pTimes, pPlus, pEq, pNe, pLen, pSum, pMaxS, pAll, pAny, pTupOf, pLstOf, pIn, pIsB, pIsi, items_tup, items_lst, items_kl, items_mr, items_tab, items_lot, items_fr, decide_true, decide_false, eqP_int, eqP_bl, eqP_str, eqP_tup2, kit_tt, kit_ii, kit_ib, tyP, mEnd, wipeP, List.map_cons, List.map_nil, List.getElem?_cons_zero, List.getElem?_cons_succ, List.set_cons_zero, List.set_cons_succ, atI_zero, atI_one, if_true, if_false, ite_true, ite_false, Bool.false_eq_true, List.length_cons, List.length_nil, Bool.not_true, Bool.not_false, lotP]
  have p0 := Nat.two_pow_pos w
  have p2 := pw_bnd w2
  refine for_inv (enc := fun (n : Nat) => PV.int n) (fun pre ρ μ' => (∃ (x : List Nat × Nat × Nat × Nat) (y6 y7 : Option PV), ρ = [some (.int (w : Nat)), some (.tup (ns.map fun (n : Nat) => PV.int n)), some (.tup (bs.map fun (n : Nat) => PV.int n)), some (restP x.2.1 x.2.2.1), some (lotP x.1), some (.int (x.2.2.2 : Nat)), y6, y7] ∧ rww (2 ^ w) pre bs 1 0 = some x) ∧ μ' = μ) (done := []) ⟨⟨([], 1, 0, 0), _, _, rfl, rfl⟩, rfl⟩ (fun pre n post ρ μ' e hI N hN => ?_) fun ρ μ' hI => ?_
  · obtain ⟨⟨x, y6, y7, rfl, hx⟩, rfl⟩ := hI
    have hns : ns = pre ++ n :: post := e
    have hpre : ∀ k ∈ pre, 2 ≤ k ∧ k ≤ 64 ∧ k ≤ 2 ^ w := fun k hk => hn k (by rw [hns]; exact List.mem_append_left _ hk)
    obtain ⟨n2, n64, nW⟩ := hn n (by rw [hns]; simp)
    obtain ⟨a1, a2, a3, a4, a5⟩ := rww_ok hpre hb (by decide) (by omega) hx
    have hpl : pre.length ≤ 11 := by have := congrArg List.length hns; simp at this; omega
    have hs := rww_snoc (W := 2 ^ w) n (ns := pre) (bs := bs) (m := 1) (r := 0)
    rw [hx] at hs
    simp only at hs
    refine stm_of fun R2 hR2 => ?_
    simp only [mLockEN, mDNewN, mDGet2N, mDPutN, mValsN, pLenN, pSortTX, mDNewT, mZipM, mDc, mLenSetL, mDGetT, mDGet2T, mDInT, mDPutT, mLockX, mLockEX, mKeysX, pLstX, pLenX, pMaxT, pSortT, str_to, str_ot, mPar3, mLockV, mLockE, mItemsC, mKeysC, mDGet2, pIsN, isNonP, pRepLM, mTruD, dkOfP, pPopAt, pIndex, mLstRgM, mTruth, pReprA, pLenD, pLstD, mDNew, pRepL, mLenSetN, mDIn, mSortSet, mSortSetL, mRevT, mForC, mSeqC, mLcC, pAbs, pMax2, pMin2, pInt1, mDGet, mDPut, mBM, mBM0, pPop, pAppend, pExtend, pSetL, mSub, mDisp, mPs, mPs0, mRevL, mRevLM, pLstOfM, mTupRg, mRg1, mRg2, pPlusM, lstItems, dictOfP, keyP, keysP, val_left, val_mixed, val_draws, put_draws, mLc, mLcM, mLc2, mFor, mSeqI, mRng1, mRng2, mZip, mEnum, mSl, mNoPart, mPart, mSeq, mAsg, mAsg2, mCB, mCons, mNil, mVar, mC, mOp, mUn, pU, mTup, mLst, mRet, mRetN, mLstM, getl, setl, mName, mCall, mCallK, mIf, mIfS, mTest, mAnd, mOr, mNot, mYes, mAndV, mOrV, mNotV, mNext, mNever, mBreak, mCont, mDrop, mChain, mPar, mGTup, mGCons, mGNil, pGcd, pI, pI0, pIx, pTimes, pPlus, pEq, pNe, pLen, pSum, pMaxS, pAll, pAny, pTupOf, pLstOf, pIn, pIsB, pIsi, items_tup, items_lst, items_kl, items_mr, items_tab, items_lot, items_fr, decide_true, decide_false, eqP_int, eqP_bl, eqP_str, eqP_tup2, kit_tt, kit_ii, kit_ib, tyP, mEnd, wipeP, List.map_cons, List.map_nil, List.getElem?_cons_zero, List.getElem?_cons_succ, List.set_cons_zero, List.set_cons_succ, atI_zero, atI_one, if_true, if_false, ite_true, ite_false, Bool.false_eq_true, List.length_cons, List.length_nil, Bool.not_true, Bool.not_false, S_wanted]
    rw [show cutP (bs.map fun (n : Nat) => PV.int n) (some ((x.2.2.2 : Nat) : Int)) none = (bs.drop x.2.2.2).map fun (n : Nat) => PV.int n by rw [List.map_drop]; exact cut_from _ _]
    refine ⟨trivial, w, x.2.1, x.2.2.1, n, bs.drop x.2.2.2, rfl, w1, w2, n2, n64, nW, fun b hb' => hb b (List.mem_of_mem_drop hb'), by rw [List.length_drop]; omega, a1, a2, ?_⟩
    cases e9 : wnt (2 ^ w) n (bs.drop x.2.2.2) x.2.1 x.2.2.1 with
    | none =>
      rw [e9] at hs
      subst hR2
      simp only [mLockEN, mDNewN, mDGet2N, mDPutN, mValsN, pLenN, pSortTX, mDNewT, mZipM, mDc, mLenSetL, mDGetT, mDGet2T, mDInT, mDPutT, mLockX, mLockEX, mKeysX, pLstX, pLenX, pMaxT, pSortT, str_to, str_ot, mPar3, mLockV, mLockE, mItemsC, mKeysC, mDGet2, pIsN, isNonP, pRepLM, mTruD, dkOfP, pPopAt, pIndex, mLstRgM, mTruth, pReprA, pLenD, pLstD, mDNew, pRepL, mLenSetN, mDIn, mSortSet, mSortSetL, mRevT, mForC, mSeqC, mLcC, pAbs, pMax2, pMin2, pInt1, mDGet, mDPut, mBM, mBM0, pPop, pAppend, pExtend, pSetL, mSub, mDisp, mPs, mPs0, mRevL, mRevLM, pLstOfM, mTupRg, mRg1, mRg2, pPlusM, lstItems, dictOfP, keyP, keysP, val_left, val_mixed, val_draws, put_draws, mLc, mLcM, mLc2, mFor, mSeqI, mRng1, mRng2, mZip, mEnum, mSl, mNoPart, mPart, mSeq, mAsg, mAsg2, mCB, mCons, mNil, mVar, mC, mOp, mUn, pU, mTup, mLst, mRet, mRetN, mLstM, getl, setl, mName, mCall, mCallK, mIf, mIfS, mTest, mAnd, mOr, mNot, mYes, mAndV, mOrV, mNotV, mNext, mNever, mBreak, mCont, mDrop, mChain, mPar, mGTup, mGCons, mGNil, pGcd, pI, pI0, pIx, pTimes, pPlus, pEq, pNe, pLen, pSum, pMaxS, pAll, pAny, pTupOf, pLstOf, pIn, pIsB, pIsi, items_tup, items_lst, items_kl, items_mr, items_tab, items_lot, items_fr, decide_true, decide_false, eqP_int, eqP_bl, eqP_str, eqP_tup2, kit_tt, kit_ii, kit_ib, tyP, mEnd, wipeP, List.map_cons, List.map_nil, List.getElem?_cons_zero, List.getElem?_cons_succ, List.set_cons_zero, List.set_cons_succ, atI_zero, atI_one, if_true, if_false, ite_true, ite_false, Bool.false_eq_true, List.length_cons, List.length_nil, Bool.not_true, Bool.not_false, wntP]
      have hz : rww (2 ^ w) ns bs 1 0 = none := by rw [hns, show pre ++ n :: post = (pre ++ [n]) ++ post by simp]; exact rww_none post hs
      rw [hz] at hQ
      exact fin_keep hQ
    | some y =>
      rw [e9] at hs
      subst hR2
      simp only [mLockEN, mDNewN, mDGet2N, mDPutN, mValsN, pLenN, pSortTX, mDNewT, mZipM, mDc, mLenSetL, mDGetT, mDGet2T, mDInT, mDPutT, mLockX, mLockEX, mKeysX, pLstX, pLenX, pMaxT, pSortT, str_to, str_ot, mPar3, mLockV, mLockE, mItemsC, mKeysC, mDGet2, pIsN, isNonP, pRepLM, mTruD, dkOfP, pPopAt, pIndex, mLstRgM, mTruth, pReprA, pLenD, pLstD, mDNew, pRepL, mLenSetN, mDIn, mSortSet, mSortSetL, mRevT, mForC, mSeqC, mLcC, pAbs, pMax2, pMin2, pInt1, mDGet, mDPut, mBM, mBM0, pPop, pAppend, pExtend, pSetL, mSub, mDisp, mPs, mPs0, mRevL, mRevLM, pLstOfM, mTupRg, mRg1, mRg2, pPlusM, lstItems, dictOfP, keyP, keysP, val_left, val_mixed, val_draws, put_draws, mLc, mLcM, mLc2, mFor, mSeqI, mRng1, mRng2, mZip, mEnum, mSl, mNoPart, mPart, mSeq, mAsg, mAsg2, mCB, mCons, mNil, mVar, mC, mOp, mUn, pU, mTup, mLst, mRet, mRetN, mLstM, getl, setl, mName, mCall, mCallK, mIf, mIfS, mTest, mAnd, mOr, mNot, mYes, mAndV, mOrV, mNotV, mNext, mNever, mBreak, mCont, mDrop, mChain, mPar, mGTup, mGCons, mGNil, pGcd, pI, pI0, pIx, pTimes, pPlus, pEq, pNe, pLen, pSum, pMaxS, pAll, pAny, pTupOf, pLstOf, pIn, pIsB, pIsi, items_tup, items_lst, items_kl, items_mr, items_tab, items_lot, items_fr, decide_true, decide_false, eqP_int, eqP_bl, eqP_str, eqP_tup2, kit_tt, kit_ii, kit_ib, tyP, mEnd, wipeP, List.map_cons, List.map_nil, List.getElem?_cons_zero, List.getElem?_cons_succ, List.set_cons_zero, List.set_cons_succ, atI_zero, atI_one, if_true, if_false, ite_true, ite_false, Bool.false_eq_true, List.length_cons, List.length_nil, Bool.not_true, Bool.not_false, wntP, lotP, atI_two]
      refine ⟨by decide, by rw [List.length_map]; unfold lim; omega, ?_⟩
      rw [lot_snoc, ← Int.natCast_add]
      exact hN _ _ ⟨⟨_, _, _, rfl, hs⟩, rfl⟩
  · obtain ⟨⟨x, y6, y7, rfl, hx⟩, rfl⟩ := hI
    rw [List.nil_append] at hx
    show R1 _ _
    subst hR1
    simp only [mLockEN, mDNewN, mDGet2N, mDPutN, mValsN, pLenN, pSortTX, mDNewT, mZipM, mDc, mLenSetL, mDGetT, mDGet2T, mDInT, mDPutT, mLockX, mLockEX, mKeysX, pLstX, pLenX, pMaxT, pSortT, str_to, str_ot, mPar3, mLockV, mLockE, mItemsC, mKeysC, mDGet2, pIsN, isNonP, pRepLM, mTruD, dkOfP, pPopAt, pIndex, mLstRgM, mTruth, pReprA, pLenD, pLstD, mDNew, pRepL, mLenSetN, mDIn, mSortSet, mSortSetL, mRevT, mForC, mSeqC, mLcC, pAbs, pMax2, pMin2, pInt1, mDGet, mDPut, mBM, mBM0, pPop, pAppend, pExtend, pSetL, mSub, mDisp, mPs, mPs0, mRevL, mRevLM, pLstOfM, mTupRg, mRg1, mRg2, pPlusM, lstItems, dictOfP, keyP, keysP, val_left, val_mixed, val_draws, put_draws, mLc, mLcM, mLc2, mFor, mSeqI, mRng1, mRng2, mZip, mEnum, mSl, mNoPart, mPart, mSeq, mAsg, mAsg2, mCB, mCons, mNil, mVar, mC, mOp, mUn, pU, mTup, mLst, mRet, mRetN, mLstM, getl, setl, mName, mCall, mCallK, mIf, mIfS, mTest, mAnd, mOr, mNot, mYes, mAndV, mOrV, mNotV, mNext, mNever, mBreak, mCont, mDrop, mChain, mPar, mGTup, mGCons, mGNil, pGcd, pI, pI0, pIx, pTimes, pPlus, pEq, pNe, pLen, pSum, pMaxS, pAll, pAny, pTupOf, pLstOf, pIn, pIsB, pIsi, items_tup, items_lst, items_kl, items_mr, items_tab, items_lot, items_fr, decide_true, decide_false, eqP_int, eqP_bl, eqP_str, eqP_tup2, kit_tt, kit_ii, kit_ib, tyP, mEnd, wipeP, List.map_cons, List.map_nil, List.getElem?_cons_zero, List.getElem?_cons_succ, List.set_cons_zero, List.set_cons_succ, atI_zero, atI_one, if_true, if_false, ite_true, ite_false, Bool.false_eq_true, List.length_cons, List.length_nil, Bool.not_true, Bool.not_false]
    rw [hx] at hQ
    exact ⟨by decide, fin_keep hQ⟩
abbrev N_law : List Str := ["_law_script", "_law_deck_here", "_law_turn", "_law_w", "_law_wants", "_law_bits_here", "_law_due", "_law_at"]
theorem sc_law : FnScope N_law ["_law_script"] (defScope s_law) := ⟨rfl, rfl, rfl, by decide +kernel, rfl, by decide +kernel, by decide +kernel⟩
theorem ok_law (B : Blt mg) (h_law : Own K mg "law" s_law) (k__law_deck : Ok P w K mg base 1 "_law_deck" s__law_deck ["_law_script"] S__law_deck) (k__law_width : Ok P w K mg base 2 "_law_width" s__law_width ["_law_deck_here", "_law_most"] S__law_width) (k__law_pick : Ok P w K mg base 2 "_law_pick" s__law_pick ["_law_deck_here", "_law_some"] S__law_pick) (k__law_want : Ok P w K mg base 2 "_law_want" s__law_want ["_law_deck_here", "_law_w"] S__law_want) (k__law_bits : Ok P w K mg base 2 "_law_bits" s__law_bits ["_law_deck_here", "_law_many"] S__law_bits) (k__law_row_wanted : Ok P w K mg base 2 "_law_row_wanted" s__law_row_wanted ["_law_w", "_law_wants", "_law_bits_here"] S__law_row_wanted) (k_row_wanted : Ok P w K mg base 6 "row_wanted" s_row_wanted ["w", "wants", "bits"] S_row_wanted) (k__law_one_by_one : Ok P w K mg base 7 "_law_one_by_one" s__law_one_by_one ["_law_w", "_law_wants", "_law_bits_here"] S__law_one_by_one) (k__law_draw : Ok P w K mg base 1 "_law_draw" s__law_draw ["_law_deck_here", "_law_many"] S__law_draw) (k__law_are_even : Ok P w K mg base 7 "_law_are_even" s__law_are_even ["_law_w", "_law_wants", "_law_most"] S__law_are_even) : Ok P w K mg base 8 "law" s_law ["_law_script"] S_law := by
  obtain ⟨f_s, fd_s, F_s, g_s⟩ := h_law
  obtain ⟨f__law_deck, fd__law_deck, F__law_deck, g__law_deck, b__law_deck, G__law_deck⟩ := k__law_deck
  obtain ⟨f__law_width, fd__law_width, F__law_width, g__law_width, b__law_width, G__law_width⟩ := k__law_width
  obtain ⟨f__law_pick, fd__law_pick, F__law_pick, g__law_pick, b__law_pick, G__law_pick⟩ := k__law_pick
  obtain ⟨f__law_want, fd__law_want, F__law_want, g__law_want, b__law_want, G__law_want⟩ := k__law_want
  obtain ⟨f__law_bits, fd__law_bits, F__law_bits, g__law_bits, b__law_bits, G__law_bits⟩ := k__law_bits
  obtain ⟨f__law_row_wanted, fd__law_row_wanted, F__law_row_wanted, g__law_row_wanted, b__law_row_wanted, G__law_row_wanted⟩ := k__law_row_wanted
  obtain ⟨f_row_wanted, fd_row_wanted, F_row_wanted, g_row_wanted, b_row_wanted, G_row_wanted⟩ := k_row_wanted
  obtain ⟨f__law_one_by_one, fd__law_one_by_one, F__law_one_by_one, g__law_one_by_one, b__law_one_by_one, G__law_one_by_one⟩ := k__law_one_by_one
  obtain ⟨f__law_draw, fd__law_draw, F__law_draw, g__law_draw, b__law_draw, G__law_draw⟩ := k__law_draw
  obtain ⟨f__law_are_even, fd__law_are_even, F__law_are_even, g__law_are_even, b__law_are_even, G__law_are_even⟩ := k__law_are_even
  have kb_row_wanted_bits_wants_w : KBs fd_row_wanted ["w", "wants", "bits"] ["bits", "wants", "w"] 0 [2, 1, 0] := kbs_mk F_row_wanted fun _ _ _ _ _ _ us ws hu hw => match us, ws, hu, hw with | [], [_, _, _], _, _ => rfl
  refine ⟨f_s, fd_s, F_s, g_s, F_s.binds (fun _ _ _ _ _ _ us hl => match us, hl with | [_], _ => rfl), FnG.of F_s sc_law (fun xs μ Q h => by first | exact h.1 | exact h.2.1 | (obtain ⟨⟩ := h)) fun cdv A outer s H hr hgd => ⟨_, _, (pss_cons (ps_set (i := 1) sc_law.nd rfl (Or.inr rfl) (pe_callG (G__law_deck.mono (by decide)) hr hgd (by rfl) g__law_deck F__law_deck.kp b__law_deck (pa_cons (pv 0) pa_nil)))
 (pss_cons (ps_for PassesOwn.never rfl (pi_range1 (by rfl) (B "range" (by decide)) (pa_cons pe_int pa_nil)) (pg_name (i := 2) sc_law.nd rfl (Or.inl rfl))
 (pss_cons (ps_set (i := 3) sc_law.nd rfl (Or.inr rfl) (pe_callG (G__law_width.mono (by decide)) hr hgd (by rfl) g__law_width F__law_width.kp b__law_width (pa_cons (pv 1) (pa_cons pe_int pa_nil))))
 (pss_cons (ps_set (i := 4) sc_law.nd rfl (Or.inl rfl) (pe_callTy cb_tup (by rfl) (B "tuple" (by decide)) (by decide +kernel) (pa_cons (pe_lc (own := [("_law_at", 7)]) (by rfl) sc_law.nd (pi_range1 (by rfl) (B "range" (by decide)) (pa_cons (pe_callG (G__law_pick.mono (by decide)) hr hgd (by rfl) g__law_pick F__law_pick.kp b__law_pick (pa_cons (pv 1) (pa_cons (pe_lst (pa_cons pe_int (pa_cons pe_int (pa_cons pe_int (pa_cons pe_int (pa_cons pe_int (pa_cons pe_int pa_nil))))))) pa_nil))) pa_nil)) (blkOk_by (own := [("_law_at", 7)]) (N := N_law) (sc := defScope s_law) (by decide +kernel)) (fun _ _ _ _ _ => (pg_name (i := 7) sc_law.nd rfl (Or.inl rfl))) (fun _ _ _ _ _ => pts_nil) (fun _ _ _ _ _ => (pek_call K rfl (G__law_want.mono (by decide)) hr hgd (by rfl) g__law_want F__law_want.kp b__law_want (pa_cons (pv 1) (pa_cons (pv 3) pa_nil))))) pa_nil)))
 (pss_cons (ps_set (i := 5) sc_law.nd rfl (Or.inl rfl) (pe_callG (G__law_bits.mono (by decide)) hr hgd (by rfl) g__law_bits F__law_bits.kp b__law_bits (pa_cons (pv 1) (pa_cons (pe_callG (G__law_pick.mono (by decide)) hr hgd (by rfl) g__law_pick F__law_pick.kp b__law_pick (pa_cons (pv 1) (pa_cons (pe_lst (pa_cons pe_int (pa_cons pe_int (pa_cons pe_int (pa_cons pe_int (pa_cons pe_int (pa_cons (pe_ifExp (pt_cmpR (op_eqX hr.units) (pv 2) pe_int (nomark _)) pe_int pe_int) pa_nil))))))) pa_nil))) pa_nil))))
 (pss_cons (ps_set (i := 6) sc_law.nd rfl (Or.inl rfl) (pe_callG (G__law_row_wanted.mono (by decide)) hr hgd (by rfl) g__law_row_wanted F__law_row_wanted.kp b__law_row_wanted (pa_cons (pv 3) (pa_cons (pv 4) (pa_cons (pv 5) pa_nil)))))
 (pss_cons (ps_if (pt_cmpR (op_neX hr.units) (pe_callB (cb_reprA hgd hr.units) (by rfl) (B "repr" (by decide)) (by decide +kernel) (pa_cons (pe_tup (pa_cons (pe_callG (G_row_wanted.mono (by decide)) hr hgd (by rfl) g_row_wanted F_row_wanted.kp b_row_wanted (pa_cons (pv 3) (pa_cons (pv 4) (pa_cons (pv 5) pa_nil)))) (pa_cons (pe_callK0G (G_row_wanted.mono (by decide)) hr hgd (by rfl) g_row_wanted F_row_wanted.kp kb_row_wanted_bits_wants_w (pk_cons (pv 5) (pk_cons (pv 4) (pk_cons (pv 3) pk_nil)))) pa_nil))) pa_nil)) (pe_callB (cb_reprA hgd hr.units) (by rfl) (B "repr" (by decide)) (by decide +kernel) (pa_cons (pe_tup (pa_cons (pv 6) (pa_cons (pv 6) pa_nil))) pa_nil)) (nomark _))
 (pss_one (ps_ret pe_bl))
 pss_nil)
 (pss_cons (ps_if (PW.pt (pw_and (pt_cmpR op_lt (pe_callB cb_len (by rfl) (B "len" (by decide)) (by decide +kernel) (pa_cons (pv 5) pa_nil)) pe_int (nomark _)) (pw_and1 (pt_cmpR (op_neX hr.units) (pe_callB (cb_reprA hgd hr.units) (by rfl) (B "repr" (by decide)) (by decide +kernel) (pa_cons (pe_callG (G__law_one_by_one.mono (by decide)) hr hgd (by rfl) g__law_one_by_one F__law_one_by_one.kp b__law_one_by_one (pa_cons (pv 3) (pa_cons (pv 4) (pa_cons (pv 5) pa_nil)))) pa_nil)) (pe_callB (cb_reprA hgd hr.units) (by rfl) (B "repr" (by decide)) (by decide +kernel) (pa_cons (pv 6) pa_nil)) (nomark _)))))
 (pss_one (ps_ret pe_bl))
 pss_nil)
 (pss_one (ps_if (PW.pt (pw_and (pt_cmpR op_notNn (pv 6) pe_non (nomark _)) (pw_and1 (pt_cmpR (op_neX hr.units) (pe_callB (cb_reprA hgd hr.units) (by rfl) (B "repr" (by decide)) (by decide +kernel) (pa_cons (pe_callG (G_row_wanted.mono (by decide)) hr hgd (by rfl) g_row_wanted F_row_wanted.kp b_row_wanted (pa_cons (pv 3) (pa_cons (pv 4) (pa_cons (pe_op op_plus (pe_slice sl_any (pv 5) po_none (po_some (pe_ix ix_seq (pv 6) pe_int (fun _ _ => rfl)))) (pe_callG (G__law_bits.mono (by decide)) hr hgd (by rfl) g__law_bits F__law_bits.kp b__law_bits (pa_cons (pv 1) (pa_cons pe_int pa_nil)))) pa_nil)))) pa_nil)) (pe_callB (cb_reprA hgd hr.units) (by rfl) (B "repr" (by decide)) (by decide +kernel) (pa_cons (pv 6) pa_nil)) (nomark _)))))
 (pss_one (ps_ret pe_bl))
 pss_nil)))))))))
 (pss_cons (ps_set (i := 3) sc_law.nd rfl (Or.inr rfl) (pe_op op_plus pe_int (pe_callG (G__law_draw.mono (by decide)) hr hgd (by rfl) g__law_draw F__law_draw.kp b__law_draw (pa_cons (pv 1) (pa_cons pe_int pa_nil)))))
 (pss_cons (ps_set (i := 4) sc_law.nd rfl (Or.inl rfl) (pe_callG (G__law_pick.mono (by decide)) hr hgd (by rfl) g__law_pick F__law_pick.kp b__law_pick (pa_cons (pv 1) (pa_cons (pe_lst (pa_cons (pe_tup (pa_cons pe_int pa_nil)) (pa_cons (pe_tup (pa_cons pe_int (pa_cons pe_int pa_nil))) (pa_cons (pe_tup (pa_cons pe_int (pa_cons pe_int pa_nil))) (pa_cons (pe_tup (pa_cons pe_int pa_nil)) (pa_cons (pe_tup (pa_cons pe_int (pa_cons pe_int pa_nil))) (pa_cons (pe_tup (pa_cons pe_int (pa_cons pe_int pa_nil))) (pa_cons (pe_tup (pa_cons pe_int (pa_cons pe_int pa_nil))) (pa_cons (pe_tup (pa_cons pe_int (pa_cons pe_int (pa_cons pe_int pa_nil)))) pa_nil))))))))) pa_nil))))
 (pss_cons (ps_if (pt_cmpR op_gt (pv 3) pe_int (nomark _))
 (pss_one (ps_set (i := 4) sc_law.nd rfl (Or.inl rfl) (pe_callG (G__law_pick.mono (by decide)) hr hgd (by rfl) g__law_pick F__law_pick.kp b__law_pick (pa_cons (pv 1) (pa_cons (pe_lst (pa_cons (pv 4) (pa_cons (pe_tup (pa_cons pe_int pa_nil)) (pa_cons (pe_tup (pa_cons pe_int pa_nil)) (pa_cons (pe_tup (pa_cons pe_int pa_nil)) (pa_cons (pe_tup (pa_cons pe_int (pa_cons pe_int pa_nil))) (pa_cons (pe_tup (pa_cons pe_int pa_nil)) (pa_cons (pe_tup (pa_cons pe_int (pa_cons pe_int pa_nil))) (pa_cons (pe_tup (pa_cons pe_int (pa_cons pe_int pa_nil))) pa_nil))))))))) pa_nil)))))
 pss_nil)
 (pss_one (ps_ret (pe_callG (G__law_are_even.mono (by decide)) hr hgd (by rfl) g__law_are_even F__law_are_even.kp b__law_are_even (pa_cons (pv 3) (pa_cons (pv 4) (pa_cons pe_int pa_nil))))))))))), (by (try dsimp only [cxOf]); exact inferInstance), ?_⟩⟩
  intro xs μ Q hS
  obtain ⟨_, ns, rfl, rfl, hQ⟩ := hS
  rw [show startP N_law [.kl (ns.map PV.int)] = [some (.kl (ns.map PV.int)), none, none, none, none, none, none, none] from rfl]
  refine stm_of fun R1 hR1 => ?_
  simp only [mLockEN, mDNewN, mDGet2N, mDPutN, mValsN, pLenN, pSortTX, mDNewT, mZipM, mDc, mLenSetL, mDGetT, mDGet2T, mDInT, mDPutT, mLockX, mLockEX, mKeysX, pLstX, pLenX, pMaxT, pSortT, str_to, str_ot, mPar3, mLockV, mLockE, mItemsC, mKeysC, mDGet2, pIsN, isNonP, pRepLM, mTruD, dkOfP, pPopAt, pIndex, mLstRgM, mTruth, pReprA, pLenD, pLstD, mDNew, pRepL, mLenSetN, mDIn, mSortSet, mSortSetL, mRevT, mForC, mSeqC, mLcC, pAbs, pMax2, pMin2, pInt1, mDGet, mDPut, mBM, mBM0, pPop, pAppend, pExtend, pSetL, mSub, mDisp, mPs, mPs0, mRevL, mRevLM, pLstOfM, mTupRg, mRg1, mRg2, pPlusM, lstItems, dictOfP, keyP, keysP, val_left, val_mixed, val_draws, put_draws, mLc, mLcM, mLc2, mFor, mSeqI, mRng1, mRng2, mZip, mEnum, mSl, mNoPart, mPart, mSeq, mAsg, mAsg2, mCB, mCons, mNil, mVar, mC, mOp, mUn, pU, mTup, mLst, mRet, mRetN, mLstM, getl, setl, mName, mCall, mCallK, mIf, mIfS, mTest, mAnd, mOr, mNot, mYes, mAndV, mOrV, mNotV, mNext, mNever, mBreak, mCont, mDrop, mChain, mPar, mGTup, mGCons, mGNil, pGcd, pI, pI0, pIx, pTimes, pPlus, pEq, pNe, pLen, pSum, pMaxS, pAll, pAny, pTupOf, pLstOf, pIn, pIsB, pIsi, items_tup, items_lst, items_kl, items_mr, items_tab, items_lot, items_fr, decide_true, decide_false, eqP_int, eqP_bl, eqP_str, eqP_tup2, kit_tt, kit_ii, kit_ib, tyP, mEnd, wipeP, List.map_cons, List.map_nil, List.getElem?_cons_zero, List.getElem?_cons_succ, List.set_cons_zero, List.set_cons_succ, atI_zero, atI_one, if_true, if_false, ite_true, ite_false, Bool.false_eq_true, List.length_cons, List.length_nil, Bool.not_true, Bool.not_false, S__law_deck]
  refine ⟨trivial, ns, rfl, trivial, fun m μ1 D1 => ?_⟩
  subst hR1
  refine stm_of fun R2 hR2 => ?_
  simp only [mLockEN, mDNewN, mDGet2N, mDPutN, mValsN, pLenN, pSortTX, mDNewT, mZipM, mDc, mLenSetL, mDGetT, mDGet2T, mDInT, mDPutT, mLockX, mLockEX, mKeysX, pLstX, pLenX, pMaxT, pSortT, str_to, str_ot, mPar3, mLockV, mLockE, mItemsC, mKeysC, mDGet2, pIsN, isNonP, pRepLM, mTruD, dkOfP, pPopAt, pIndex, mLstRgM, mTruth, pReprA, pLenD, pLstD, mDNew, pRepL, mLenSetN, mDIn, mSortSet, mSortSetL, mRevT, mForC, mSeqC, mLcC, pAbs, pMax2, pMin2, pInt1, mDGet, mDPut, mBM, mBM0, pPop, pAppend, pExtend, pSetL, mSub, mDisp, mPs, mPs0, mRevL, mRevLM, pLstOfM, mTupRg, mRg1, mRg2, pPlusM, lstItems, dictOfP, keyP, keysP, val_left, val_mixed, val_draws, put_draws, mLc, mLcM, mLc2, mFor, mSeqI, mRng1, mRng2, mZip, mEnum, mSl, mNoPart, mPart, mSeq, mAsg, mAsg2, mCB, mCons, mNil, mVar, mC, mOp, mUn, pU, mTup, mLst, mRet, mRetN, mLstM, getl, setl, mName, mCall, mCallK, mIf, mIfS, mTest, mAnd, mOr, mNot, mYes, mAndV, mOrV, mNotV, mNext, mNever, mBreak, mCont, mDrop, mChain, mPar, mGTup, mGCons, mGNil, pGcd, pI, pI0, pIx, pTimes, pPlus, pEq, pNe, pLen, pSum, pMaxS, pAll, pAny, pTupOf, pLstOf, pIn, pIsB, pIsi, items_tup, items_lst, items_kl, items_mr, items_tab, items_lot, items_fr, decide_true, decide_false, eqP_int, eqP_bl, eqP_str, eqP_tup2, kit_tt, kit_ii, kit_ib, tyP, mEnd, wipeP, List.map_cons, List.map_nil, List.getElem?_cons_zero, List.getElem?_cons_succ, List.set_cons_zero, List.set_cons_succ, atI_zero, atI_one, if_true, if_false, ite_true, ite_false, Bool.false_eq_true, List.length_cons, List.length_nil, Bool.not_true, Bool.not_false]
  rw [show (Int.toNat 5) = 5 from rfl, rangeP_eq]
  refine ⟨by decide, for_inv (enc := fun (i : Nat) => PV.int i) (fun pre ρ μ' => (∃ (y2 y3 y4 y5 y6 y7 : Option PV), ρ = [some (.kl (ns.map PV.int)), some (.mr 1), y2, y3, y4, y5, y6, y7]) ∧ Dk m [] μ') (done := []) ⟨⟨_, _, _, _, _, _, rfl⟩, D1⟩ (fun pre i post ρ μ3 e hI N hN => ?_) fun ρ μ3 hI => ?_⟩
  · obtain ⟨⟨y2, y3, y4, y5, y6, y7, rfl⟩, D3⟩ := hI
    refine stm_of fun R3 hR3 => ?_
    simp only [mLockEN, mDNewN, mDGet2N, mDPutN, mValsN, pLenN, pSortTX, mDNewT, mZipM, mDc, mLenSetL, mDGetT, mDGet2T, mDInT, mDPutT, mLockX, mLockEX, mKeysX, pLstX, pLenX, pMaxT, pSortT, str_to, str_ot, mPar3, mLockV, mLockE, mItemsC, mKeysC, mDGet2, pIsN, isNonP, pRepLM, mTruD, dkOfP, pPopAt, pIndex, mLstRgM, mTruth, pReprA, pLenD, pLstD, mDNew, pRepL, mLenSetN, mDIn, mSortSet, mSortSetL, mRevT, mForC, mSeqC, mLcC, pAbs, pMax2, pMin2, pInt1, mDGet, mDPut, mBM, mBM0, pPop, pAppend, pExtend, pSetL, mSub, mDisp, mPs, mPs0, mRevL, mRevLM, pLstOfM, mTupRg, mRg1, mRg2, pPlusM, lstItems, dictOfP, keyP, keysP, val_left, val_mixed, val_draws, put_draws, mLc, mLcM, mLc2, mFor, mSeqI, mRng1, mRng2, mZip, mEnum, mSl, mNoPart, mPart, mSeq, mAsg, mAsg2, mCB, mCons, mNil, mVar, mC, mOp, mUn, pU, mTup, mLst, mRet, mRetN, mLstM, getl, setl, mName, mCall, mCallK, mIf, mIfS, mTest, mAnd, mOr, mNot, mYes, mAndV, mOrV, mNotV, mNext, mNever, mBreak, mCont, mDrop, mChain, mPar, mGTup, mGCons, mGNil, pGcd, pI, pI0, pIx, pTimes, pPlus, pEq, pNe, pLen, pSum, pMaxS, pAll, pAny, pTupOf, pLstOf, pIn, pIsB, pIsi, items_tup, items_lst, items_kl, items_mr, items_tab, items_lot, items_fr, decide_true, decide_false, eqP_int, eqP_bl, eqP_str, eqP_tup2, kit_tt, kit_ii, kit_ib, tyP, mEnd, wipeP, List.map_cons, List.map_nil, List.getElem?_cons_zero, List.getElem?_cons_succ, List.set_cons_zero, List.set_cons_succ, atI_zero, atI_one, if_true, if_false, ite_true, ite_false, Bool.false_eq_true, List.length_cons, List.length_nil, Bool.not_true, Bool.not_false, S__law_width]
    refine ⟨trivial, 12, m, [], rfl, D3, by decide, by decide, fun w μ4 w1 w2 D4 => ?_⟩
    subst hR3
    refine stm_of fun R3 hR3 => ?_
    simp only [mLockEN, mDNewN, mDGet2N, mDPutN, mValsN, pLenN, pSortTX, mDNewT, mZipM, mDc, mLenSetL, mDGetT, mDGet2T, mDInT, mDPutT, mLockX, mLockEX, mKeysX, pLstX, pLenX, pMaxT, pSortT, str_to, str_ot, mPar3, mLockV, mLockE, mItemsC, mKeysC, mDGet2, pIsN, isNonP, pRepLM, mTruD, dkOfP, pPopAt, pIndex, mLstRgM, mTruth, pReprA, pLenD, pLstD, mDNew, pRepL, mLenSetN, mDIn, mSortSet, mSortSetL, mRevT, mForC, mSeqC, mLcC, pAbs, pMax2, pMin2, pInt1, mDGet, mDPut, mBM, mBM0, pPop, pAppend, pExtend, pSetL, mSub, mDisp, mPs, mPs0, mRevL, mRevLM, pLstOfM, mTupRg, mRg1, mRg2, pPlusM, lstItems, dictOfP, keyP, keysP, val_left, val_mixed, val_draws, put_draws, mLc, mLcM, mLc2, mFor, mSeqI, mRng1, mRng2, mZip, mEnum, mSl, mNoPart, mPart, mSeq, mAsg, mAsg2, mCB, mCons, mNil, mVar, mC, mOp, mUn, pU, mTup, mLst, mRet, mRetN, mLstM, getl, setl, mName, mCall, mCallK, mIf, mIfS, mTest, mAnd, mOr, mNot, mYes, mAndV, mOrV, mNotV, mNext, mNever, mBreak, mCont, mDrop, mChain, mPar, mGTup, mGCons, mGNil, pGcd, pI, pI0, pIx, pTimes, pPlus, pEq, pNe, pLen, pSum, pMaxS, pAll, pAny, pTupOf, pLstOf, pIn, pIsB, pIsi, items_tup, items_lst, items_kl, items_mr, items_tab, items_lot, items_fr, decide_true, decide_false, eqP_int, eqP_bl, eqP_str, eqP_tup2, kit_tt, kit_ii, kit_ib, tyP, mEnd, wipeP, List.map_cons, List.map_nil, List.getElem?_cons_zero, List.getElem?_cons_succ, List.set_cons_zero, List.set_cons_succ, atI_zero, atI_one, if_true, if_false, ite_true, ite_false, Bool.false_eq_true, List.length_cons, List.length_nil, Bool.not_true, Bool.not_false, S__law_pick]
    refine ⟨by decide, by decide, trivial, _, ([1, 2, 3, 5, 0, 12].map fun (i : Nat) => PV.int i), m, [], rfl, .inl rfl, D4, by decide, by decide, fun v hv μ5 D5 => ?_⟩
    obtain ⟨k, hk, rfl⟩ := List.mem_map.mp hv
    have hk12 : k ≤ 12 := by
      simp only [List.mem_cons, List.not_mem_nil, or_false] at hk
      omega
    simp only
    rw [show ((k : Nat) : Int).toNat = k from Int.toNat_natCast k, rangeP_eq]
    refine ⟨⟨by omega, by omega⟩, by rw [List.length_map, List.length_range]; unfold lim; omega, nats_anyQ (p := fun n => 2 ≤ n ∧ n ≤ 64 ∧ n ≤ 2 ^ w) D5 (fun a μ' D' N hN => ?_) fun L μ6 a1 a2 D6 => ?_⟩
    · simp only [mLockEN, mDNewN, mDGet2N, mDPutN, mValsN, pLenN, pSortTX, mDNewT, mZipM, mDc, mLenSetL, mDGetT, mDGet2T, mDInT, mDPutT, mLockX, mLockEX, mKeysX, pLstX, pLenX, pMaxT, pSortT, str_to, str_ot, mPar3, mLockV, mLockE, mItemsC, mKeysC, mDGet2, pIsN, isNonP, pRepLM, mTruD, dkOfP, pPopAt, pIndex, mLstRgM, mTruth, pReprA, pLenD, pLstD, mDNew, pRepL, mLenSetN, mDIn, mSortSet, mSortSetL, mRevT, mForC, mSeqC, mLcC, pAbs, pMax2, pMin2, pInt1, mDGet, mDPut, mBM, mBM0, pPop, pAppend, pExtend, pSetL, mSub, mDisp, mPs, mPs0, mRevL, mRevLM, pLstOfM, mTupRg, mRg1, mRg2, pPlusM, lstItems, dictOfP, keyP, keysP, val_left, val_mixed, val_draws, put_draws, mLc, mLcM, mLc2, mFor, mSeqI, mRng1, mRng2, mZip, mEnum, mSl, mNoPart, mPart, mSeq, mAsg, mAsg2, mCB, mCons, mNil, mVar, mC, mOp, mUn, pU, mTup, mLst, mRet, mRetN, mLstM, getl, setl, mName, mCall, mCallK, mIf, mIfS, mTest, mAnd, mOr, mNot, mYes, mAndV, mOrV, mNotV, mNext, mNever, mBreak, mCont, mDrop, mChain, mPar, mGTup, mGCons, mGNil, pGcd, pI, pI0, pIx, pTimes, pPlus, pEq, pNe, pLen, pSum, pMaxS, pAll, pAny, pTupOf, pLstOf, pIn, pIsB, pIsi, items_tup, items_lst, items_kl, items_mr, items_tab, items_lot, items_fr, decide_true, decide_false, eqP_int, eqP_bl, eqP_str, eqP_tup2, kit_tt, kit_ii, kit_ib, tyP, mEnd, wipeP, List.map_cons, List.map_nil, List.getElem?_cons_zero, List.getElem?_cons_succ, List.set_cons_zero, List.set_cons_succ, atI_zero, atI_one, if_true, if_false, ite_true, ite_false, Bool.false_eq_true, List.length_cons, List.length_nil, Bool.not_true, Bool.not_false, S__law_want]
      exact ⟨trivial, w, m, [], rfl, D', w1, by omega, fun n μ' h1 h2 h3 D => hN _ _ ⟨h1, h2, h3⟩ D⟩
    subst hR3
    refine stm_of fun R3 hR3 => ?_
    simp only [mLockEN, mDNewN, mDGet2N, mDPutN, mValsN, pLenN, pSortTX, mDNewT, mZipM, mDc, mLenSetL, mDGetT, mDGet2T, mDInT, mDPutT, mLockX, mLockEX, mKeysX, pLstX, pLenX, pMaxT, pSortT, str_to, str_ot, mPar3, mLockV, mLockE, mItemsC, mKeysC, mDGet2, pIsN, isNonP, pRepLM, mTruD, dkOfP, pPopAt, pIndex, mLstRgM, mTruth, pReprA, pLenD, pLstD, mDNew, pRepL, mLenSetN, mDIn, mSortSet, mSortSetL, mRevT, mForC, mSeqC, mLcC, pAbs, pMax2, pMin2, pInt1, mDGet, mDPut, mBM, mBM0, pPop, pAppend, pExtend, pSetL, mSub, mDisp, mPs, mPs0, mRevL, mRevLM, pLstOfM, mTupRg, mRg1, mRg2, pPlusM, lstItems, dictOfP, keyP, keysP, val_left, val_mixed, val_draws, put_draws, mLc, mLcM, mLc2, mFor, mSeqI, mRng1, mRng2, mZip, mEnum, mSl, mNoPart, mPart, mSeq, mAsg, mAsg2, mCB, mCons, mNil, mVar, mC, mOp, mUn, pU, mTup, mLst, mRet, mRetN, mLstM, getl, setl, mName, mCall, mCallK, mIf, mIfS, mTest, mAnd, mOr, mNot, mYes, mAndV, mOrV, mNotV, mNext, mNever, mBreak, mCont, mDrop, mChain, mPar, mGTup, mGCons, mGNil, pGcd, pI, pI0, pIx, pTimes, pPlus, pEq, pNe, pLen, pSum, pMaxS, pAll, pAny, pTupOf, pLstOf, pIn, pIsB, pIsi, items_tup, items_lst, items_kl, items_mr, items_tab, items_lot, items_fr, decide_true, decide_false, eqP_int, eqP_bl, eqP_str, eqP_tup2, kit_tt, kit_ii, kit_ib, tyP, mEnd, wipeP, List.map_cons, List.map_nil, List.getElem?_cons_zero, List.getElem?_cons_succ, List.set_cons_zero, List.set_cons_succ, atI_zero, atI_one, if_true, if_false, ite_true, ite_false, Bool.false_eq_true, List.length_cons, List.length_nil, Bool.not_true, Bool.not_false, S__law_pick, S__law_bits]
    have hpost : ∀ (bs : List Nat) (μ9 : Store), (∀ b ∈ bs, b < 2) → bs.length ≤ 400 → Dk m [] μ9 → R3 [some (.kl (ns.map PV.int)), some (.mr 1), some (.int (i : Nat)), some (.int (w : Nat)), some (.tup (L.map fun (n : Nat) => PV.int n)), some (lotP bs), y6, y7] μ9 := fun bs μ9 b1 b2 D9 => by
      subst hR3
      refine stm_of fun R3 hR3 => ?_
      simp only [mLockEN, mDNewN, mDGet2N, mDPutN, mValsN, pLenN, pSortTX, mDNewT, mZipM, mDc, mLenSetL, mDGetT, mDGet2T, mDInT, mDPutT, mLockX, mLockEX, mKeysX, pLstX, pLenX, pMaxT, pSortT, str_to, str_ot, mPar3, mLockV, mLockE, mItemsC, mKeysC, mDGet2, pIsN, isNonP, pRepLM, mTruD, dkOfP, pPopAt, pIndex, mLstRgM, mTruth, pReprA, pLenD, pLstD, mDNew, pRepL, mLenSetN, mDIn, mSortSet, mSortSetL, mRevT, mForC, mSeqC, mLcC, pAbs, pMax2, pMin2, pInt1, mDGet, mDPut, mBM, mBM0, pPop, pAppend, pExtend, pSetL, mSub, mDisp, mPs, mPs0, mRevL, mRevLM, pLstOfM, mTupRg, mRg1, mRg2, pPlusM, lstItems, dictOfP, keyP, keysP, val_left, val_mixed, val_draws, put_draws, mLc, mLcM, mLc2, mFor, mSeqI, mRng1, mRng2, mZip, mEnum, mSl, mNoPart, mPart, mSeq, mAsg, mAsg2, mCB, mCons, mNil, mVar, mC, mOp, mUn, pU, mTup, mLst, mRet, mRetN, mLstM, getl, setl, mName, mCall, mCallK, mIf, mIfS, mTest, mAnd, mOr, mNot, mYes, mAndV, mOrV, mNotV, mNext, mNever, mBreak, mCont, mDrop, mChain, mPar, mGTup, mGCons, mGNil, pGcd, pI, pI0, pIx, pTimes, pPlus, pEq, pNe, pLen, pSum, pMaxS, pAll, pAny, pTupOf, pLstOf, pIn, pIsB, pIsi, items_tup, items_lst, items_kl, items_mr, items_tab, items_lot, items_fr, decide_true, decide_false, eqP_int, eqP_bl, eqP_str, eqP_tup2, kit_tt, kit_ii, kit_ib, tyP, mEnd, wipeP, List.map_cons, List.map_nil, List.getElem?_cons_zero, List.getElem?_cons_succ, List.set_cons_zero, List.set_cons_succ, atI_zero, atI_one, if_true, if_false, ite_true, ite_false, Bool.false_eq_true, List.length_cons, List.length_nil, Bool.not_true, Bool.not_false, S__law_row_wanted]
      refine ⟨trivial, w, L, bs, rfl, w1, by omega, a1, by omega, b1, by omega, ?_⟩
      have pt2 := pw_bnd (w := w) (by omega)
      have pt0 := Nat.two_pow_pos w
      have hrb : RwB (rww (2 ^ w) L bs 1 0) := rwB_of a1 (by omega) (by omega) b1 (by omega) (by decide) (by omega)
      subst hR3
      refine stm_of fun R3 hR3 => ?_
      simp only [mLockEN, mDNewN, mDGet2N, mDPutN, mValsN, pLenN, pSortTX, mDNewT, mZipM, mDc, mLenSetL, mDGetT, mDGet2T, mDInT, mDPutT, mLockX, mLockEX, mKeysX, pLstX, pLenX, pMaxT, pSortT, str_to, str_ot, mPar3, mLockV, mLockE, mItemsC, mKeysC, mDGet2, pIsN, isNonP, pRepLM, mTruD, dkOfP, pPopAt, pIndex, mLstRgM, mTruth, pReprA, pLenD, pLstD, mDNew, pRepL, mLenSetN, mDIn, mSortSet, mSortSetL, mRevT, mForC, mSeqC, mLcC, pAbs, pMax2, pMin2, pInt1, mDGet, mDPut, mBM, mBM0, pPop, pAppend, pExtend, pSetL, mSub, mDisp, mPs, mPs0, mRevL, mRevLM, pLstOfM, mTupRg, mRg1, mRg2, pPlusM, lstItems, dictOfP, keyP, keysP, val_left, val_mixed, val_draws, put_draws, mLc, mLcM, mLc2, mFor, mSeqI, mRng1, mRng2, mZip, mEnum, mSl, mNoPart, mPart, mSeq, mAsg, mAsg2, mCB, mCons, mNil, mVar, mC, mOp, mUn, pU, mTup, mLst, mRet, mRetN, mLstM, getl, setl, mName, mCall, mCallK, mIf, mIfS, mTest, mAnd, mOr, mNot, mYes, mAndV, mOrV, mNotV, mNext, mNever, mBreak, mCont, mDrop, mChain, mPar, mGTup, mGCons, mGNil, pGcd, pI, pI0, pIx, pTimes, pPlus, pEq, pNe, pLen, pSum, pMaxS, pAll, pAny, pTupOf, pLstOf, pIn, pIsB, pIsi, items_tup, items_lst, items_kl, items_mr, items_tab, items_lot, items_fr, decide_true, decide_false, eqP_int, eqP_bl, eqP_str, eqP_tup2, kit_tt, kit_ii, kit_ib, tyP, mEnd, wipeP, List.map_cons, List.map_nil, List.getElem?_cons_zero, List.getElem?_cons_succ, List.set_cons_zero, List.set_cons_succ, atI_zero, atI_one, if_true, if_false, ite_true, ite_false, Bool.false_eq_true, List.length_cons, List.length_nil, Bool.not_true, Bool.not_false, S_row_wanted, -pReprA]
      refine ⟨trivial, w, L, bs, rfl, w1, by omega, a1, by omega, b1, by omega, trivial, rfl, w, L, bs, rfl, w1, by omega, a1, by omega, b1, by omega, by decide, ?_⟩
      refine pReprA_row2 hrb ⟨by decide, pReprA_row2 hrb ?_⟩
      simp only [eqP_str, decide_true, Bool.not_true, Bool.false_eq_true, if_false]
      subst hR3
      refine stm_of fun R3 hR3 => ?_
      simp only [mLockEN, mDNewN, mDGet2N, mDPutN, mValsN, pLenN, pSortTX, mDNewT, mZipM, mDc, mLenSetL, mDGetT, mDGet2T, mDInT, mDPutT, mLockX, mLockEX, mKeysX, pLstX, pLenX, pMaxT, pSortT, str_to, str_ot, mPar3, mLockV, mLockE, mItemsC, mKeysC, mDGet2, pIsN, isNonP, pRepLM, mTruD, dkOfP, pPopAt, pIndex, mLstRgM, mTruth, pReprA, pLenD, pLstD, mDNew, pRepL, mLenSetN, mDIn, mSortSet, mSortSetL, mRevT, mForC, mSeqC, mLcC, pAbs, pMax2, pMin2, pInt1, mDGet, mDPut, mBM, mBM0, pPop, pAppend, pExtend, pSetL, mSub, mDisp, mPs, mPs0, mRevL, mRevLM, pLstOfM, mTupRg, mRg1, mRg2, pPlusM, lstItems, dictOfP, keyP, keysP, val_left, val_mixed, val_draws, put_draws, mLc, mLcM, mLc2, mFor, mSeqI, mRng1, mRng2, mZip, mEnum, mSl, mNoPart, mPart, mSeq, mAsg, mAsg2, mCB, mCons, mNil, mVar, mC, mOp, mUn, pU, mTup, mLst, mRet, mRetN, mLstM, getl, setl, mName, mCall, mCallK, mIf, mIfS, mTest, mAnd, mOr, mNot, mYes, mAndV, mOrV, mNotV, mNext, mNever, mBreak, mCont, mDrop, mChain, mPar, mGTup, mGCons, mGNil, pGcd, pI, pI0, pIx, pTimes, pPlus, pEq, pNe, pLen, pSum, pMaxS, pAll, pAny, pTupOf, pLstOf, pIn, pIsB, pIsi, items_tup, items_lst, items_kl, items_mr, items_tab, items_lot, items_fr, decide_true, decide_false, eqP_int, eqP_bl, eqP_str, eqP_tup2, kit_tt, kit_ii, kit_ib, tyP, mEnd, wipeP, List.map_cons, List.map_nil, List.getElem?_cons_zero, List.getElem?_cons_succ, List.set_cons_zero, List.set_cons_succ, atI_zero, atI_one, if_true, if_false, ite_true, ite_false, Bool.false_eq_true, List.length_cons, List.length_nil, Bool.not_true, Bool.not_false, S__law_one_by_one, lotP, List.length_map, -pReprA]
      have hnx : R3 [some (.kl (ns.map PV.int)), some (.mr 1), some (.int (i : Nat)), some (.int (w : Nat)), some (.tup (L.map fun (n : Nat) => PV.int n)), some (.tup (bs.map fun (n : Nat) => PV.int n)), some (rowP (rww (2 ^ w) L bs 1 0)), y7] μ9 := by
        cases hx : rww (2 ^ w) L bs 1 0 with
        | none =>
          subst hR3
          simp only [mLockEN, mDNewN, mDGet2N, mDPutN, mValsN, pLenN, pSortTX, mDNewT, mZipM, mDc, mLenSetL, mDGetT, mDGet2T, mDInT, mDPutT, mLockX, mLockEX, mKeysX, pLstX, pLenX, pMaxT, pSortT, str_to, str_ot, mPar3, mLockV, mLockE, mItemsC, mKeysC, mDGet2, pIsN, isNonP, pRepLM, mTruD, dkOfP, pPopAt, pIndex, mLstRgM, mTruth, pReprA, pLenD, pLstD, mDNew, pRepL, mLenSetN, mDIn, mSortSet, mSortSetL, mRevT, mForC, mSeqC, mLcC, pAbs, pMax2, pMin2, pInt1, mDGet, mDPut, mBM, mBM0, pPop, pAppend, pExtend, pSetL, mSub, mDisp, mPs, mPs0, mRevL, mRevLM, pLstOfM, mTupRg, mRg1, mRg2, pPlusM, lstItems, dictOfP, keyP, keysP, val_left, val_mixed, val_draws, put_draws, mLc, mLcM, mLc2, mFor, mSeqI, mRng1, mRng2, mZip, mEnum, mSl, mNoPart, mPart, mSeq, mAsg, mAsg2, mCB, mCons, mNil, mVar, mC, mOp, mUn, pU, mTup, mLst, mRet, mRetN, mLstM, getl, setl, mName, mCall, mCallK, mIf, mIfS, mTest, mAnd, mOr, mNot, mYes, mAndV, mOrV, mNotV, mNext, mNever, mBreak, mCont, mDrop, mChain, mPar, mGTup, mGCons, mGNil, pGcd, pI, pI0, pIx, pTimes, pPlus, pEq, pNe, pLen, pSum, pMaxS, pAll, pAny, pTupOf, pLstOf, pIn, pIsB, pIsi, items_tup, items_lst, items_kl, items_mr, items_tab, items_lot, items_fr, decide_true, decide_false, eqP_int, eqP_bl, eqP_str, eqP_tup2, kit_tt, kit_ii, kit_ib, tyP, mEnd, wipeP, List.map_cons, List.map_nil, List.getElem?_cons_zero, List.getElem?_cons_succ, List.set_cons_zero, List.set_cons_succ, atI_zero, atI_one, if_true, if_false, ite_true, ite_false, Bool.false_eq_true, List.length_cons, List.length_nil, Bool.not_true, Bool.not_false, rowP]
          exact hN _ _ ⟨⟨_, _, _, _, _, _, rfl⟩, D9⟩
        | some x =>
          rw [hx] at hrb
          subst hR3
          simp only [mLockEN, mDNewN, mDGet2N, mDPutN, mValsN, pLenN, pSortTX, mDNewT, mZipM, mDc, mLenSetL, mDGetT, mDGet2T, mDInT, mDPutT, mLockX, mLockEX, mKeysX, pLstX, pLenX, pMaxT, pSortT, str_to, str_ot, mPar3, mLockV, mLockE, mItemsC, mKeysC, mDGet2, pIsN, isNonP, pRepLM, mTruD, dkOfP, pPopAt, pIndex, mLstRgM, mTruth, pReprA, pLenD, pLstD, mDNew, pRepL, mLenSetN, mDIn, mSortSet, mSortSetL, mRevT, mForC, mSeqC, mLcC, pAbs, pMax2, pMin2, pInt1, mDGet, mDPut, mBM, mBM0, pPop, pAppend, pExtend, pSetL, mSub, mDisp, mPs, mPs0, mRevL, mRevLM, pLstOfM, mTupRg, mRg1, mRg2, pPlusM, lstItems, dictOfP, keyP, keysP, val_left, val_mixed, val_draws, put_draws, mLc, mLcM, mLc2, mFor, mSeqI, mRng1, mRng2, mZip, mEnum, mSl, mNoPart, mPart, mSeq, mAsg, mAsg2, mCB, mCons, mNil, mVar, mC, mOp, mUn, pU, mTup, mLst, mRet, mRetN, mLstM, getl, setl, mName, mCall, mCallK, mIf, mIfS, mTest, mAnd, mOr, mNot, mYes, mAndV, mOrV, mNotV, mNext, mNever, mBreak, mCont, mDrop, mChain, mPar, mGTup, mGCons, mGNil, pGcd, pI, pI0, pIx, pTimes, pPlus, pEq, pNe, pLen, pSum, pMaxS, pAll, pAny, pTupOf, pLstOf, pIn, pIsB, pIsi, items_tup, items_lst, items_kl, items_mr, items_tab, items_lot, items_fr, decide_true, decide_false, eqP_int, eqP_bl, eqP_str, eqP_tup2, kit_tt, kit_ii, kit_ib, tyP, mEnd, wipeP, List.map_cons, List.map_nil, List.getElem?_cons_zero, List.getElem?_cons_succ, List.set_cons_zero, List.set_cons_succ, atI_zero, atI_one, if_true, if_false, ite_true, ite_false, Bool.false_eq_true, List.length_cons, List.length_nil, Bool.not_true, Bool.not_false, rowP, S_row_wanted, S__law_bits, atI_two, -pReprA]
          refine ⟨trivial, 4, m, [], rfl, D9, by decide, fun more μ' c1 c2 D' => ?_⟩
          rw [cut_to, ← List.map_take]
          simp only [lotP]
          have ht := rww_take more a1 b1 (by decide) (by omega) hx
          refine ⟨by rw [List.length_map, List.length_map, List.length_take]; unfold lim; omega, trivial, w, L, bs.take x.2.2.2 ++ more, by rw [List.map_append], w1, by omega, a1, by omega, fun b hb => ?_, by rw [List.length_append, List.length_take]; omega, ?_⟩
          · rcases List.mem_append.mp hb with hb | hb
            · exact b1 b (List.mem_of_mem_take hb)
            · exact c1 b hb
          rw [ht]
          refine pReprA_row (x := some x) hrb ?_
          refine pRepr_tup (shb_row hrb) (by decide) (by decide) ?_
          rw [show rowP (some x) = PV.tup [PV.tup (x.1.map fun (n : Nat) => PV.int n), restP x.2.1 x.2.2.1, PV.int (x.2.2.2 : Nat)] from rfl]
          simp only [eqP_str, decide_true, Bool.not_true, Bool.false_eq_true, if_false]
          exact hN _ _ ⟨⟨_, _, _, _, _, _, rfl⟩, D'⟩
      split
      · refine ⟨trivial, w, L, bs, rfl, w1, by omega, a1, by omega, b1, by omega, ?_⟩
        refine pReprA_row hrb ?_
        refine pReprA_row hrb ?_
        simp only [eqP_str, decide_true, Bool.not_true, Bool.false_eq_true, if_false]
        exact hnx
      · exact hnx
    split
    · refine ⟨by decide, trivial, _, ([20, 40, 100, 5, 0, 400].map fun (i : Nat) => PV.int i), m, [], rfl, .inl rfl, D6, by decide, by decide, fun v hv μ8 D8 => ?_⟩
      obtain ⟨q, hq, rfl⟩ := List.mem_map.mp hv
      have hq4 : q ≤ 400 := by
        simp only [List.mem_cons, List.not_mem_nil, or_false] at hq
        omega
      exact ⟨trivial, q, m, [], rfl, D8, by omega, fun bs μ9 b1 b2 D9 => hpost bs μ9 b1 (by omega) D9⟩
    · refine ⟨by decide, trivial, _, ([20, 40, 100, 5, 0, 60].map fun (i : Nat) => PV.int i), m, [], rfl, .inl rfl, D6, by decide, by decide, fun v hv μ8 D8 => ?_⟩
      obtain ⟨q, hq, rfl⟩ := List.mem_map.mp hv
      have hq4 : q ≤ 400 := by
        simp only [List.mem_cons, List.not_mem_nil, or_false] at hq
        omega
      exact ⟨trivial, q, m, [], rfl, D8, by omega, fun bs μ9 b1 b2 D9 => hpost bs μ9 b1 (by omega) D9⟩
  · obtain ⟨⟨y2, y3, y4, y5, y6, y7, rfl⟩, D3⟩ := hI
    show R2 _ _
    subst hR2
    refine stm_of fun R3 hR3 => ?_
    simp only [mLockEN, mDNewN, mDGet2N, mDPutN, mValsN, pLenN, pSortTX, mDNewT, mZipM, mDc, mLenSetL, mDGetT, mDGet2T, mDInT, mDPutT, mLockX, mLockEX, mKeysX, pLstX, pLenX, pMaxT, pSortT, str_to, str_ot, mPar3, mLockV, mLockE, mItemsC, mKeysC, mDGet2, pIsN, isNonP, pRepLM, mTruD, dkOfP, pPopAt, pIndex, mLstRgM, mTruth, pReprA, pLenD, pLstD, mDNew, pRepL, mLenSetN, mDIn, mSortSet, mSortSetL, mRevT, mForC, mSeqC, mLcC, pAbs, pMax2, pMin2, pInt1, mDGet, mDPut, mBM, mBM0, pPop, pAppend, pExtend, pSetL, mSub, mDisp, mPs, mPs0, mRevL, mRevLM, pLstOfM, mTupRg, mRg1, mRg2, pPlusM, lstItems, dictOfP, keyP, keysP, val_left, val_mixed, val_draws, put_draws, mLc, mLcM, mLc2, mFor, mSeqI, mRng1, mRng2, mZip, mEnum, mSl, mNoPart, mPart, mSeq, mAsg, mAsg2, mCB, mCons, mNil, mVar, mC, mOp, mUn, pU, mTup, mLst, mRet, mRetN, mLstM, getl, setl, mName, mCall, mCallK, mIf, mIfS, mTest, mAnd, mOr, mNot, mYes, mAndV, mOrV, mNotV, mNext, mNever, mBreak, mCont, mDrop, mChain, mPar, mGTup, mGCons, mGNil, pGcd, pI, pI0, pIx, pTimes, pPlus, pEq, pNe, pLen, pSum, pMaxS, pAll, pAny, pTupOf, pLstOf, pIn, pIsB, pIsi, items_tup, items_lst, items_kl, items_mr, items_tab, items_lot, items_fr, decide_true, decide_false, eqP_int, eqP_bl, eqP_str, eqP_tup2, kit_tt, kit_ii, kit_ib, tyP, mEnd, wipeP, List.map_cons, List.map_nil, List.getElem?_cons_zero, List.getElem?_cons_succ, List.set_cons_zero, List.set_cons_succ, atI_zero, atI_one, if_true, if_false, ite_true, ite_false, Bool.false_eq_true, List.length_cons, List.length_nil, Bool.not_true, Bool.not_false, S__law_draw]
    refine ⟨trivial, 3, m, [], rfl, D3, by decide, by decide, fun z μ4 z0 z1 D4 => ?_⟩
    obtain ⟨z, rfl⟩ : ∃ i : Nat, z = (i : Int) := ⟨z.toNat, by omega⟩
    rw [show (2 : Int) + (z : Nat) = ((2 + z : Nat) : Int) by omega]
    subst hR3
    refine stm_of fun R3 hR3 => ?_
    simp only [mLockEN, mDNewN, mDGet2N, mDPutN, mValsN, pLenN, pSortTX, mDNewT, mZipM, mDc, mLenSetL, mDGetT, mDGet2T, mDInT, mDPutT, mLockX, mLockEX, mKeysX, pLstX, pLenX, pMaxT, pSortT, str_to, str_ot, mPar3, mLockV, mLockE, mItemsC, mKeysC, mDGet2, pIsN, isNonP, pRepLM, mTruD, dkOfP, pPopAt, pIndex, mLstRgM, mTruth, pReprA, pLenD, pLstD, mDNew, pRepL, mLenSetN, mDIn, mSortSet, mSortSetL, mRevT, mForC, mSeqC, mLcC, pAbs, pMax2, pMin2, pInt1, mDGet, mDPut, mBM, mBM0, pPop, pAppend, pExtend, pSetL, mSub, mDisp, mPs, mPs0, mRevL, mRevLM, pLstOfM, mTupRg, mRg1, mRg2, pPlusM, lstItems, dictOfP, keyP, keysP, val_left, val_mixed, val_draws, put_draws, mLc, mLcM, mLc2, mFor, mSeqI, mRng1, mRng2, mZip, mEnum, mSl, mNoPart, mPart, mSeq, mAsg, mAsg2, mCB, mCons, mNil, mVar, mC, mOp, mUn, pU, mTup, mLst, mRet, mRetN, mLstM, getl, setl, mName, mCall, mCallK, mIf, mIfS, mTest, mAnd, mOr, mNot, mYes, mAndV, mOrV, mNotV, mNext, mNever, mBreak, mCont, mDrop, mChain, mPar, mGTup, mGCons, mGNil, pGcd, pI, pI0, pIx, pTimes, pPlus, pEq, pNe, pLen, pSum, pMaxS, pAll, pAny, pTupOf, pLstOf, pIn, pIsB, pIsi, items_tup, items_lst, items_kl, items_mr, items_tab, items_lot, items_fr, decide_true, decide_false, eqP_int, eqP_bl, eqP_str, eqP_tup2, kit_tt, kit_ii, kit_ib, tyP, mEnd, wipeP, List.map_cons, List.map_nil, List.getElem?_cons_zero, List.getElem?_cons_succ, List.set_cons_zero, List.set_cons_succ, atI_zero, atI_one, if_true, if_false, ite_true, ite_false, Bool.false_eq_true, List.length_cons, List.length_nil, Bool.not_true, Bool.not_false, S__law_pick]
    refine ⟨by decide, by decide, by decide, by decide, by decide, by decide, by decide, by decide, by decide, trivial, _, ([[3], [2, 3], [3, 2], [4], [2, 2], [3, 3], [4, 3], [2, 2, 3]].map lotP), m, [], rfl, .inl rfl, D4, by decide, by decide, fun v hv μ5 D5 => ?_⟩
    obtain ⟨L, hL, rfl⟩ := List.mem_map.mp hv
    have hz : z = 0 ∨ z = 1 ∨ z = 2 := by omega
    subst hR3
    refine stm_of fun R3 hR3 => ?_
    have hfin : ∀ (l : List Nat) (μ' : Store), (l ∈ wA ∨ (1 ≤ z ∧ l ∈ wB)) → R3 [some (.kl (ns.map PV.int)), some (.mr 1), y2, some (.int ((2 + z : Nat) : Int)), some (lotP l), y5, y6, y7] μ' := fun l μ' hl => by
      obtain ⟨g1, g2, g3⟩ := even_ok (by omega) hl
      subst hR3
      simp only [mLockEN, mDNewN, mDGet2N, mDPutN, mValsN, pLenN, pSortTX, mDNewT, mZipM, mDc, mLenSetL, mDGetT, mDGet2T, mDInT, mDPutT, mLockX, mLockEX, mKeysX, pLstX, pLenX, pMaxT, pSortT, str_to, str_ot, mPar3, mLockV, mLockE, mItemsC, mKeysC, mDGet2, pIsN, isNonP, pRepLM, mTruD, dkOfP, pPopAt, pIndex, mLstRgM, mTruth, pReprA, pLenD, pLstD, mDNew, pRepL, mLenSetN, mDIn, mSortSet, mSortSetL, mRevT, mForC, mSeqC, mLcC, pAbs, pMax2, pMin2, pInt1, mDGet, mDPut, mBM, mBM0, pPop, pAppend, pExtend, pSetL, mSub, mDisp, mPs, mPs0, mRevL, mRevLM, pLstOfM, mTupRg, mRg1, mRg2, pPlusM, lstItems, dictOfP, keyP, keysP, val_left, val_mixed, val_draws, put_draws, mLc, mLcM, mLc2, mFor, mSeqI, mRng1, mRng2, mZip, mEnum, mSl, mNoPart, mPart, mSeq, mAsg, mAsg2, mCB, mCons, mNil, mVar, mC, mOp, mUn, pU, mTup, mLst, mRet, mRetN, mLstM, getl, setl, mName, mCall, mCallK, mIf, mIfS, mTest, mAnd, mOr, mNot, mYes, mAndV, mOrV, mNotV, mNext, mNever, mBreak, mCont, mDrop, mChain, mPar, mGTup, mGCons, mGNil, pGcd, pI, pI0, pIx, pTimes, pPlus, pEq, pNe, pLen, pSum, pMaxS, pAll, pAny, pTupOf, pLstOf, pIn, pIsB, pIsi, items_tup, items_lst, items_kl, items_mr, items_tab, items_lot, items_fr, decide_true, decide_false, eqP_int, eqP_bl, eqP_str, eqP_tup2, kit_tt, kit_ii, kit_ib, tyP, mEnd, wipeP, List.map_cons, List.map_nil, List.getElem?_cons_zero, List.getElem?_cons_succ, List.set_cons_zero, List.set_cons_succ, atI_zero, atI_one, if_true, if_false, ite_true, ite_false, Bool.false_eq_true, List.length_cons, List.length_nil, Bool.not_true, Bool.not_false, S__law_are_even]
      exact ⟨trivial, 2 + z, l, rfl, by omega, by omega, g1, g2, g3, fin_keep (hQ _)⟩
    simp only [mLockEN, mDNewN, mDGet2N, mDPutN, mValsN, pLenN, pSortTX, mDNewT, mZipM, mDc, mLenSetL, mDGetT, mDGet2T, mDInT, mDPutT, mLockX, mLockEX, mKeysX, pLstX, pLenX, pMaxT, pSortT, str_to, str_ot, mPar3, mLockV, mLockE, mItemsC, mKeysC, mDGet2, pIsN, isNonP, pRepLM, mTruD, dkOfP, pPopAt, pIndex, mLstRgM, mTruth, pReprA, pLenD, pLstD, mDNew, pRepL, mLenSetN, mDIn, mSortSet, mSortSetL, mRevT, mForC, mSeqC, mLcC, pAbs, pMax2, pMin2, pInt1, mDGet, mDPut, mBM, mBM0, pPop, pAppend, pExtend, pSetL, mSub, mDisp, mPs, mPs0, mRevL, mRevLM, pLstOfM, mTupRg, mRg1, mRg2, pPlusM, lstItems, dictOfP, keyP, keysP, val_left, val_mixed, val_draws, put_draws, mLc, mLcM, mLc2, mFor, mSeqI, mRng1, mRng2, mZip, mEnum, mSl, mNoPart, mPart, mSeq, mAsg, mAsg2, mCB, mCons, mNil, mVar, mC, mOp, mUn, pU, mTup, mLst, mRet, mRetN, mLstM, getl, setl, mName, mCall, mCallK, mIf, mIfS, mTest, mAnd, mOr, mNot, mYes, mAndV, mOrV, mNotV, mNext, mNever, mBreak, mCont, mDrop, mChain, mPar, mGTup, mGCons, mGNil, pGcd, pI, pI0, pIx, pTimes, pPlus, pEq, pNe, pLen, pSum, pMaxS, pAll, pAny, pTupOf, pLstOf, pIn, pIsB, pIsi, items_tup, items_lst, items_kl, items_mr, items_tab, items_lot, items_fr, decide_true, decide_false, eqP_int, eqP_bl, eqP_str, eqP_tup2, kit_tt, kit_ii, kit_ib, tyP, mEnd, wipeP, List.map_cons, List.map_nil, List.getElem?_cons_zero, List.getElem?_cons_succ, List.set_cons_zero, List.set_cons_succ, atI_zero, atI_one, if_true, if_false, ite_true, ite_false, Bool.false_eq_true, List.length_cons, List.length_nil, Bool.not_true, Bool.not_false, S__law_pick]
    by_cases c : 2 < ((2 + z : Nat) : Int)
    · rw [decide_eq_true c, if_pos rfl]
      refine ⟨by decide, by decide, by decide, by decide, by decide, by decide, by decide, by decide, trivial, _, ((L :: wB).map lotP), m, [], rfl, .inl rfl, D5, by simp, by simp [wB], fun v hv μ6 D6 => ?_⟩
      obtain ⟨l, hl, rfl⟩ := List.mem_map.mp hv
      refine hfin l μ6 ?_
      rcases List.mem_cons.mp hl with rfl | hl
      · exact .inl hL
      · exact .inr ⟨by omega, hl⟩
    · rw [decide_eq_false c, if_neg (by decide)]
      exact hfin L μ5 (.inl hL)
theorem all_ok (B : Blt mg) (o__law_deck : Own K mg "_law_deck" s__law_deck) (o__law_draw : Own K mg "_law_draw" s__law_draw) (o_is_integer : Own K mg "is_integer" s_is_integer) (o_drawn_behind : Own K mg "drawn_behind" s_drawn_behind) (o__law_wanted : Own K mg "_law_wanted" s__law_wanted) (o__law_pick : Own K mg "_law_pick" s__law_pick) (o_is_within : Own K mg "is_within" s_is_within) (o__law_row_wanted : Own K mg "_law_row_wanted" s__law_row_wanted) (o__law_width : Own K mg "_law_width" s__law_width) (o__law_bits : Own K mg "_law_bits" s__law_bits) (o__law_want : Own K mg "_law_want" s__law_want) (o_check_width : Own K mg "check_width" s_check_width) (o_is_want : Own K mg "is_want" s_is_want) (o_are_integers : Own K mg "are_integers" s_are_integers) (o_is_rest : Own K mg "is_rest" s_is_rest) (o_check_wants : Own K mg "check_wants" s_check_wants) (o_are_bits : Own K mg "are_bits" s_are_bits) (o_check_want : Own K mg "check_want" s_check_want) (o_check_bits : Own K mg "check_bits" s_check_bits) (o_row_wanted : Own K mg "row_wanted" s_row_wanted) (o_wanted : Own K mg "wanted" s_wanted) (o__law_are_even : Own K mg "_law_are_even" s__law_are_even) (o__law_one_by_one : Own K mg "_law_one_by_one" s__law_one_by_one) (o_law : Own K mg "law" s_law) {t_MOST_WANT : Tok} (c_MOST_WANT : mg "MOST_WANT" = some (.int 64 t_MOST_WANT)) {t_MOST_WIDTH : Tok} (c_MOST_WIDTH : mg "MOST_WIDTH" = some (.int 12 t_MOST_WIDTH)) : Ok P w K mg base 8 "law" s_law ["_law_script"] S_law := by
  have k__law_deck : Ok P w K mg base 1 "_law_deck" s__law_deck ["_law_script"] S__law_deck := ok__law_deck B o__law_deck 
  have k__law_draw : Ok P w K mg base 1 "_law_draw" s__law_draw ["_law_deck_here", "_law_many"] S__law_draw := ok__law_draw B o__law_draw 
  have k_is_integer : Ok P w K mg base 1 "is_integer" s_is_integer ["thing"] S_is_integer := ok_is_integer B o_is_integer 
  have k_drawn_behind : Ok P w K mg base 1 "drawn_behind" s_drawn_behind ["w", "rest", "n", "bits", "taken"] S_drawn_behind := ok_drawn_behind B o_drawn_behind 
  have k__law_wanted : Ok P w K mg base 1 "_law_wanted" s__law_wanted ["_law_w", "_law_rest", "_law_n", "_law_bits_here"] S__law_wanted := ok__law_wanted B o__law_wanted 
  have k__law_pick : Ok P w K mg base 2 "_law_pick" s__law_pick ["_law_deck_here", "_law_some"] S__law_pick := ok__law_pick B o__law_pick k__law_draw
  have k_is_within : Ok P w K mg base 2 "is_within" s_is_within ["thing", "low", "high"] S_is_within := ok_is_within B o_is_within k_is_integer
  have k__law_row_wanted : Ok P w K mg base 2 "_law_row_wanted" s__law_row_wanted ["_law_w", "_law_wants", "_law_bits_here"] S__law_row_wanted := ok__law_row_wanted B o__law_row_wanted k__law_wanted
  have k__law_width : Ok P w K mg base 2 "_law_width" s__law_width ["_law_deck_here", "_law_most"] S__law_width := ok__law_width B o__law_width k__law_draw
  have k__law_bits : Ok P w K mg base 2 "_law_bits" s__law_bits ["_law_deck_here", "_law_many"] S__law_bits := ok__law_bits B o__law_bits k__law_draw
  have k__law_want : Ok P w K mg base 2 "_law_want" s__law_want ["_law_deck_here", "_law_w"] S__law_want := ok__law_want B o__law_want k__law_draw
  have k_check_width : Ok P w K mg base 3 "check_width" s_check_width ["w"] S_check_width := ok_check_width B o_check_width k_is_within c_MOST_WIDTH
  have k_is_want : Ok P w K mg base 3 "is_want" s_is_want ["thing", "w"] S_is_want := ok_is_want B o_is_want k_is_within c_MOST_WANT
  have k_are_integers : Ok P w K mg base 3 "are_integers" s_are_integers ["thing", "low", "high"] S_are_integers := ok_are_integers B o_are_integers k_is_within
  have k_is_rest : Ok P w K mg base 3 "is_rest" s_is_rest ["thing", "w"] S_is_rest := ok_is_rest B o_is_rest k_is_within
  have k_check_wants : Ok P w K mg base 4 "check_wants" s_check_wants ["w", "wants"] S_check_wants := ok_check_wants B o_check_wants k_check_width k_is_want
  have k_are_bits : Ok P w K mg base 4 "are_bits" s_are_bits ["thing"] S_are_bits := ok_are_bits B o_are_bits k_are_integers
  have k_check_want : Ok P w K mg base 4 "check_want" s_check_want ["w", "n"] S_check_want := ok_check_want B o_check_want k_check_width k_is_want
  have k_check_bits : Ok P w K mg base 5 "check_bits" s_check_bits ["bits"] S_check_bits := ok_check_bits B o_check_bits k_are_bits
  have k_row_wanted : Ok P w K mg base 6 "row_wanted" s_row_wanted ["w", "wants", "bits"] S_row_wanted := ok_row_wanted B o_row_wanted k_check_wants k_check_bits k_drawn_behind
  have k_wanted : Ok P w K mg base 6 "wanted" s_wanted ["w", "rest", "n", "bits"] S_wanted := ok_wanted B o_wanted k_check_width k_is_rest k_check_want k_check_bits k_drawn_behind
  have k__law_are_even : Ok P w K mg base 7 "_law_are_even" s__law_are_even ["_law_w", "_law_wants", "_law_most"] S__law_are_even := ok__law_are_even B o__law_are_even k_row_wanted k__law_row_wanted
  have k__law_one_by_one : Ok P w K mg base 7 "_law_one_by_one" s__law_one_by_one ["_law_w", "_law_wants", "_law_bits_here"] S__law_one_by_one := ok__law_one_by_one B o__law_one_by_one k_wanted
  have k_law : Ok P w K mg base 8 "law" s_law ["_law_script"] S_law := ok_law B o_law k__law_deck k__law_width k__law_pick k__law_want k__law_bits k__law_row_wanted k_row_wanted k__law_one_by_one k__law_draw k__law_are_even
  exact k_law
end
end K43
namespace K43
open PySem PySem.Spec PyProof.Rows L2 RZ Fx MR
theorem all_mk {P : Program} {w : World} {K : PySem.W.Frag} {h : Heap} {mg : Str → Option Value} {fa : Addr} (X : K.In h) (G : h.Ns mainGlobals mg) (hfa : mg "law" = some (.ref fa))
    (o__law_deck : Own K mg "_law_deck" s__law_deck)
    (o__law_draw : Own K mg "_law_draw" s__law_draw)
    (o_is_integer : Own K mg "is_integer" s_is_integer)
    (o_drawn_behind : Own K mg "drawn_behind" s_drawn_behind)
    (o__law_wanted : Own K mg "_law_wanted" s__law_wanted)
    (o__law_pick : Own K mg "_law_pick" s__law_pick)
    (o_is_within : Own K mg "is_within" s_is_within)
    (o__law_row_wanted : Own K mg "_law_row_wanted" s__law_row_wanted)
    (o__law_width : Own K mg "_law_width" s__law_width)
    (o__law_bits : Own K mg "_law_bits" s__law_bits)
    (o__law_want : Own K mg "_law_want" s__law_want)
    (o_check_width : Own K mg "check_width" s_check_width)
    (o_is_want : Own K mg "is_want" s_is_want)
    (o_are_integers : Own K mg "are_integers" s_are_integers)
    (o_is_rest : Own K mg "is_rest" s_is_rest)
    (o_check_wants : Own K mg "check_wants" s_check_wants)
    (o_are_bits : Own K mg "are_bits" s_are_bits)
    (o_check_want : Own K mg "check_want" s_check_want)
    (o_check_bits : Own K mg "check_bits" s_check_bits)
    (o_row_wanted : Own K mg "row_wanted" s_row_wanted)
    (o_wanted : Own K mg "wanted" s_wanted)
    (o__law_are_even : Own K mg "_law_are_even" s__law_are_even)
    (o__law_one_by_one : Own K mg "_law_one_by_one" s__law_one_by_one)
    (o_law : Own K mg "law" s_law)
    (z_abs : PySem.W.nsIn K mainGlobals "abs" = some none)
    (z_len : PySem.W.nsIn K mainGlobals "len" = some none)
    (z_sum : PySem.W.nsIn K mainGlobals "sum" = some none)
    (z_all : PySem.W.nsIn K mainGlobals "all" = some none)
    (z_any : PySem.W.nsIn K mainGlobals "any" = some none)
    (z_isinstance : PySem.W.nsIn K mainGlobals "isinstance" = some none)
    (z_repr : PySem.W.nsIn K mainGlobals "repr" = some none)
    (z_int : PySem.W.nsIn K mainGlobals "int" = some none)
    (z_tuple : PySem.W.nsIn K mainGlobals "tuple" = some none)
    (z_list : PySem.W.nsIn K mainGlobals "list" = some none)
    (z_bool : PySem.W.nsIn K mainGlobals "bool" = some none)
    (z_str : PySem.W.nsIn K mainGlobals "str" = some none)
    (z_range : PySem.W.nsIn K mainGlobals "range" = some none)
    (z_zip : PySem.W.nsIn K mainGlobals "zip" = some none)
    (z_enumerate : PySem.W.nsIn K mainGlobals "enumerate" = some none)
    (z_max : PySem.W.nsIn K mainGlobals "max" = some none)
    (z_min : PySem.W.nsIn K mainGlobals "min" = some none)
    (z_sorted : PySem.W.nsIn K mainGlobals "sorted" = some none)
    (z_reversed : PySem.W.nsIn K mainGlobals "reversed" = some none)
    (z_set : PySem.W.nsIn K mainGlobals "set" = some none)
    (z_dict : PySem.W.nsIn K mainGlobals "dict" = some none)
    {t_MOST_WANT : Tok} (c_MOST_WANT : PySem.W.nsIn K mainGlobals "MOST_WANT" = some (some (.int 64 t_MOST_WANT)))
    {t_MOST_WIDTH : Tok} (c_MOST_WIDTH : PySem.W.nsIn K mainGlobals "MOST_WIDTH" = some (some (.int 12 t_MOST_WIDTH))) :
    ∃ fd : FuncData, (∀ (s : Shared) (u : Value), BindsTo s fd ⟨[u], []⟩ [("_law_script", u)]) ∧ ∀ base : Heap, K.In base → base.Ns mainGlobals mg → FnG P w K mg base 8 fa fd ["_law_script"] (lawS 63) := by
  have B : Blt mg := blt_mk X G (fun x hx => by
    simp only [names0, List.mem_cons, List.not_mem_nil, or_false] at hx
    rcases hx with rfl | rfl | rfl | rfl | rfl | rfl | rfl | rfl | rfl | rfl | rfl | rfl | rfl | rfl | rfl | rfl | rfl | rfl | rfl | rfl | rfl <;> assumption)
  refine law_fin hfa o_law (fun _ _ _ _ _ _ _ _ => .of_eq rfl) (fun base hK hg => all_ok B o__law_deck o__law_draw o_is_integer o_drawn_behind o__law_wanted o__law_pick o_is_within o__law_row_wanted o__law_width o__law_bits o__law_want o_check_width o_is_want o_are_integers o_is_rest o_check_wants o_are_bits o_check_want o_check_bits o_row_wanted o_wanted o__law_are_even o__law_one_by_one o_law  (PySem.W.mg_of X G c_MOST_WANT) (PySem.W.mg_of X G c_MOST_WIDTH)) ?_
  rintro xs μ Q ⟨rfl, ns, rfl, hl, hQ⟩
  exact ⟨rfl, ns, rfl, rfl, hQ⟩
end K43
open PySem PySem.W PyProof.Rows
set_option maxHeartbeats 0 in
theorem PySem.Challenge.cw_drawnbits_k43_whole_rows_of_wants_holds : PySem.Challenge.rw_drawnbits_k43_whole_rows_of_wants.Holds := by
  w_on; o_law; k_head; (case hw => w_witness2)
  k_fill
  refine Fx.walk_law (l := PySem.Challenge.rw_drawnbits_k43_whole_rows_of_wants) (n := 63) (k := 8) (x := "_law_script") rfl (by decide) rfl ⟨rfl, by decide, by decide⟩ (fun w h Y => PySem.W.kIn_of Y) ?F
  case F =>
    intro w mg fa h KX G hmg
    refine' K43.all_mk KX G hmg ?o__law_deck ?o__law_draw ?o_is_integer ?o_drawn_behind ?o__law_wanted ?o__law_pick ?o_is_within ?o__law_row_wanted ?o__law_width ?o__law_bits ?o__law_want ?o_check_width ?o_is_want ?o_are_integers ?o_is_rest ?o_check_wants ?o_are_bits ?o_check_want ?o_check_bits ?o_row_wanted ?o_wanted ?o__law_are_even ?o__law_one_by_one ?o_law ?z_abs ?z_len ?z_sum ?z_all ?z_any ?z_isinstance ?z_repr ?z_int ?z_tuple ?z_list ?z_bool ?z_str ?z_range ?z_zip ?z_enumerate ?z_max ?z_min ?z_sorted ?z_reversed ?z_set ?z_dict ?c_MOST_WANT ?c_MOST_WIDTH
    (case o__law_deck => refine' Fx.own_mk KX G ?a ?l ?c ?k; (case a => k_is); (case l => k_is); (case c => k_is); (case k => k_is))
    (case o__law_draw => refine' Fx.own_mk KX G ?a ?l ?c ?k; (case a => k_is); (case l => k_is); (case c => k_is); (case k => k_is))
    (case o_is_integer => refine' Fx.own_mk KX G ?a ?l ?c ?k; (case a => k_is); (case l => k_is); (case c => k_is); (case k => k_is))
    (case o_drawn_behind => refine' Fx.own_mk KX G ?a ?l ?c ?k; (case a => k_is); (case l => k_is); (case c => k_is); (case k => k_is))
    (case o__law_wanted => refine' Fx.own_mk KX G ?a ?l ?c ?k; (case a => k_is); (case l => k_is); (case c => k_is); (case k => k_is))
    (case o__law_pick => refine' Fx.own_mk KX G ?a ?l ?c ?k; (case a => k_is); (case l => k_is); (case c => k_is); (case k => k_is))
    (case o_is_within => refine' Fx.own_mk KX G ?a ?l ?c ?k; (case a => k_is); (case l => k_is); (case c => k_is); (case k => k_is))
    (case o__law_row_wanted => refine' Fx.own_mk KX G ?a ?l ?c ?k; (case a => k_is); (case l => k_is); (case c => k_is); (case k => k_is))
    (case o__law_width => refine' Fx.own_mk KX G ?a ?l ?c ?k; (case a => k_is); (case l => k_is); (case c => k_is); (case k => k_is))
    (case o__law_bits => refine' Fx.own_mk KX G ?a ?l ?c ?k; (case a => k_is); (case l => k_is); (case c => k_is); (case k => k_is))
    (case o__law_want => refine' Fx.own_mk KX G ?a ?l ?c ?k; (case a => k_is); (case l => k_is); (case c => k_is); (case k => k_is))
    (case o_check_width => refine' Fx.own_mk KX G ?a ?l ?c ?k; (case a => k_is); (case l => k_is); (case c => k_is); (case k => k_is))
    (case o_is_want => refine' Fx.own_mk KX G ?a ?l ?c ?k; (case a => k_is); (case l => k_is); (case c => k_is); (case k => k_is))
    (case o_are_integers => refine' Fx.own_mk KX G ?a ?l ?c ?k; (case a => k_is); (case l => k_is); (case c => k_is); (case k => k_is))
    (case o_is_rest => refine' Fx.own_mk KX G ?a ?l ?c ?k; (case a => k_is); (case l => k_is); (case c => k_is); (case k => k_is))
    (case o_check_wants => refine' Fx.own_mk KX G ?a ?l ?c ?k; (case a => k_is); (case l => k_is); (case c => k_is); (case k => k_is))
    (case o_are_bits => refine' Fx.own_mk KX G ?a ?l ?c ?k; (case a => k_is); (case l => k_is); (case c => k_is); (case k => k_is))
    (case o_check_want => refine' Fx.own_mk KX G ?a ?l ?c ?k; (case a => k_is); (case l => k_is); (case c => k_is); (case k => k_is))
    (case o_check_bits => refine' Fx.own_mk KX G ?a ?l ?c ?k; (case a => k_is); (case l => k_is); (case c => k_is); (case k => k_is))
    (case o_row_wanted => refine' Fx.own_mk KX G ?a ?l ?c ?k; (case a => k_is); (case l => k_is); (case c => k_is); (case k => k_is))
    (case o_wanted => refine' Fx.own_mk KX G ?a ?l ?c ?k; (case a => k_is); (case l => k_is); (case c => k_is); (case k => k_is))
    (case o__law_are_even => refine' Fx.own_mk KX G ?a ?l ?c ?k; (case a => k_is); (case l => k_is); (case c => k_is); (case k => k_is))
    (case o__law_one_by_one => refine' Fx.own_mk KX G ?a ?l ?c ?k; (case a => k_is); (case l => k_is); (case c => k_is); (case k => k_is))
    (case o_law => refine' Fx.own_mk KX G ?a ?l ?c ?k; (case a => k_is); (case l => k_is); (case c => k_is); (case k => k_is))
    (case z_abs => k_is)
    (case z_len => k_is)
    (case z_sum => k_is)
    (case z_all => k_is)
    (case z_any => k_is)
    (case z_isinstance => k_is)
    (case z_repr => k_is)
    (case z_int => k_is)
    (case z_tuple => k_is)
    (case z_list => k_is)
    (case z_bool => k_is)
    (case z_str => k_is)
    (case z_range => k_is)
    (case z_zip => k_is)
    (case z_enumerate => k_is)
    (case z_max => k_is)
    (case z_min => k_is)
    (case z_sorted => k_is)
    (case z_reversed => k_is)
    (case z_set => k_is)
    (case z_dict => k_is)
    (case c_MOST_WANT => k_is)
    (case c_MOST_WIDTH => k_is)
