import PyProof.Rows.All
import Wide.All
import OpenK.AllK
import Wide.FinOn
import PySem.Challenge.RW_foldlook_k01_whole_machines
import KE.GoesEnum
import HandS.ForMost
import HandS.ForExc
import HandS.Property
import HandS.OwnEq
import HandS.Deep
import HandS.TupMul
import HandS.TupAny
import HandS.IsInst
import HandS.Walk
import HandS.Strs
import HandS.Conv
import HandS.Replace
import HandS.Small
import HandS.FStr
import HandS.TryMany
import KE.DataCmp
import HandS.ExcInit
import HandS.ExcSuper
import KE.KExcSuper
import KE.KSuper
import HandS.TryOnly
import OpenK.KOps
import HandS.SlotsOwn
import HandS.Style
import HandS.ExcField
import HandS.Lambda
import HandS.EndOwn
import KE.KNestM
set_option Elab.async false
set_option linter.all false
/-! the mathematics of machines: steps, runs, one machine behind another -/
namespace FX
abbrev Rows := List (List (Nat × List Nat))
/-- the rows of a machine on the letters zs -/
structure MachOk (zs : List Nat) (R : Rows) : Prop where
  pos : 1 ≤ R.length
  rows : ∀ row ∈ R, row.length = zs.length
  st : ∀ row ∈ R, ∀ t ∈ row, t.1 < R.length
  one : ∀ row ∈ R, ∀ t ∈ row, t.2.length ≤ 1
  out : ∀ row ∈ R, ∀ t ∈ row, ∀ c ∈ t.2, c ∈ zs
def ix (zs : List Nat) (c : Nat) : Nat := zs.idxOf c
def stp (zs : List Nat) (R : Rows) (s c : Nat) : Nat × List Nat := (R.getD s []).getD (ix zs c) (0, [])
def runM (zs : List Nat) (R : Rows) : Nat → List Nat → Nat × List Nat
  | s, [] => (s, [])
  | s, c :: r => ((runM zs R (stp zs R s c).1 r).1, (stp zs R s c).2 ++ (runM zs R (stp zs R s c).1 r).2)
def madeM (zs : List Nat) (R : Rows) (v : List Nat) : List Nat := (runM zs R 0 v).2

theorem ix_lt {zs : List Nat} {c : Nat} (h : c ∈ zs) : ix zs c < zs.length := List.idxOf_lt_length_of_mem h

theorem stp_mem {zs : List Nat} {R : Rows} (M : MachOk zs R) {s c : Nat} (hs : s < R.length) (hc : c ∈ zs) :
    ∃ row, R[s]? = some row ∧ row[ix zs c]? = some (stp zs R s c) ∧ row ∈ R ∧ stp zs R s c ∈ row := by
  have h1 : R[s] ∈ R := List.getElem_mem hs
  have h2 : ix zs c < R[s].length := by rw [M.rows _ h1]; exact ix_lt hc
  have e1 : R[s]? = some R[s] := List.getElem?_eq_getElem hs
  have e2 : stp zs R s c = R[s][ix zs c] := by
    unfold stp
    have e3 : R.getD s [] = R[s] := by
      rw [List.getD_eq_getElem?_getD, e1]
      rfl
    rw [e3, List.getD_eq_getElem?_getD, List.getElem?_eq_getElem h2]
    rfl
  exact ⟨R[s], e1, by rw [e2]; exact List.getElem?_eq_getElem h2, h1, by rw [e2]; exact List.getElem_mem h2⟩
theorem stp_lt {zs : List Nat} {R : Rows} (M : MachOk zs R) {s c : Nat} (hs : s < R.length) (hc : c ∈ zs) : (stp zs R s c).1 < R.length := by
  obtain ⟨row, _, _, h1, h2⟩ := stp_mem M hs hc
  exact M.st row h1 _ h2
theorem stp_one {zs : List Nat} {R : Rows} (M : MachOk zs R) {s c : Nat} (hs : s < R.length) (hc : c ∈ zs) : (stp zs R s c).2.length ≤ 1 := by
  obtain ⟨row, _, _, h1, h2⟩ := stp_mem M hs hc
  exact M.one row h1 _ h2
theorem stp_out {zs : List Nat} {R : Rows} (M : MachOk zs R) {s c : Nat} (hs : s < R.length) (hc : c ∈ zs) : ∀ d ∈ (stp zs R s c).2, d ∈ zs := by
  obtain ⟨row, _, _, h1, h2⟩ := stp_mem M hs hc
  exact M.out row h1 _ h2
theorem runM_app (zs : List Nat) (R : Rows) : ∀ (u v : List Nat) (s : Nat), runM zs R s (u ++ v) = ((runM zs R (runM zs R s u).1 v).1, (runM zs R s u).2 ++ (runM zs R (runM zs R s u).1 v).2)
  | [], v, s => by simp [runM]
  | c :: u, v, s => by
    show ((runM zs R _ (u ++ v)).1, _ ++ (runM zs R _ (u ++ v)).2) = _
    rw [runM_app zs R u v]
    simp [runM, List.append_assoc]
theorem runM_lt {zs : List Nat} {R : Rows} (M : MachOk zs R) : ∀ (v : List Nat) (s : Nat), s < R.length → (∀ c ∈ v, c ∈ zs) → (runM zs R s v).1 < R.length
  | [], s, hs, _ => hs
  | c :: v, s, hs, hv => runM_lt M v _ (stp_lt M hs (hv c List.mem_cons_self)) fun d hd => hv d (List.mem_cons_of_mem _ hd)
theorem runM_out {zs : List Nat} {R : Rows} (M : MachOk zs R) : ∀ (v : List Nat) (s : Nat), s < R.length → (∀ c ∈ v, c ∈ zs) → ∀ d ∈ (runM zs R s v).2, d ∈ zs
  | [], s, hs, _, d, hd => nomatch hd
  | c :: v, s, hs, hv, d, hd => by
    have hc := hv c List.mem_cons_self
    rcases List.mem_append.mp hd with h | h
    · exact stp_out M hs hc d h
    · exact runM_out M v _ (stp_lt M hs hc) (fun d hd => hv d (List.mem_cons_of_mem _ hd)) d h
theorem runM_len {zs : List Nat} {R : Rows} (M : MachOk zs R) : ∀ (v : List Nat) (s : Nat), s < R.length → (∀ c ∈ v, c ∈ zs) → (runM zs R s v).2.length ≤ v.length
  | [], s, hs, _ => Nat.le_refl _
  | c :: v, s, hs, hv => by
    have hc := hv c List.mem_cons_self
    have h1 := stp_one M hs hc
    have h2 := runM_len M v _ (stp_lt M hs hc) fun d hd => hv d (List.mem_cons_of_mem _ hd)
    show ((stp zs R s c).2 ++ (runM zs R (stp zs R s c).1 v).2).length ≤ _
    rw [List.length_append, List.length_cons]
    omega

/-- the outs, letter by letter -/
def outL (zs : List Nat) (R : Rows) : Nat → List Nat → List (List Nat)
  | _, [] => []
  | s, c :: r => (stp zs R s c).2 :: outL zs R (stp zs R s c).1 r
theorem outL_flat (zs : List Nat) (R : Rows) : ∀ (v : List Nat) (s : Nat), (outL zs R s v).flatten = (runM zs R s v).2
  | [], s => rfl
  | c :: v, s => by
    show ((stp zs R s c).2 :: outL zs R (stp zs R s c).1 v).flatten = _
    rw [List.flatten_cons, outL_flat zs R v]
    rfl
theorem outL_app (zs : List Nat) (R : Rows) : ∀ (u v : List Nat) (s : Nat), outL zs R s (u ++ v) = outL zs R s u ++ outL zs R (runM zs R s u).1 v
  | [], v, s => rfl
  | c :: u, v, s => by
    show _ :: outL zs R _ (u ++ v) = _
    rw [outL_app zs R u v]
    rfl
theorem outL_len (zs : List Nat) (R : Rows) : ∀ (v : List Nat) (s : Nat), (outL zs R s v).length = v.length
  | [], s => rfl
  | c :: v, s => by
    show (outL zs R _ v).length + 1 = v.length + 1
    rw [outL_len zs R v]
theorem take_succ' {α : Type} {l : List α} {i : Nat} {x : α} (h : l[i]? = some x) : l.take (i + 1) = l.take i ++ [x] := by
  rw [List.take_add_one, h]
  rfl
/-! ### one machine behind which another stands -/
def jt (zs : List Nat) (R1 R2 : Rows) (p : Nat × Nat) (c : Nat) : (Nat × Nat) × List Nat :=
  match (stp zs R1 p.1 c).2 with
  | [] => (((stp zs R1 p.1 c).1, p.2), [])
  | h :: _ => (((stp zs R1 p.1 c).1, (stp zs R2 p.2 h).1), (stp zs R2 p.2 h).2)
abbrev PS := List (Nat × Nat)
def addP (ps : PS) (q : Nat × Nat) : PS := if q ∈ ps then ps else ps ++ [q]
/-- the letters of a row, one after the other -/
def rowS (f : Nat → (Nat × Nat) × List Nat) : List Nat → PS → List (Nat × List Nat) → PS × List (Nat × List Nat)
  | [], ps, row => (ps, row)
  | c :: r, ps, row => rowS f r (addP ps (f c).1) (row ++ [((addP ps (f c).1).idxOf (f c).1, (f c).2)])
abbrev BS := PS × Rows
def turnB (zs : List Nat) (R1 R2 : Rows) (s : BS) : BS :=
  ((rowS (jt zs R1 R2 (s.1.getD s.2.length (0, 0))) zs s.1 []).1, s.2 ++ [(rowS (jt zs R1 R2 (s.1.getD s.2.length (0, 0))) zs s.1 []).2])
def bfs (zs : List Nat) (R1 R2 : Rows) : Nat → BS → BS
  | 0, s => s
  | n + 1, s => if s.2.length < s.1.length then bfs zs R1 R2 n (turnB zs R1 R2 s) else s
theorem bfs_done {zs : List Nat} {R1 R2 : Rows} {s : BS} (h : ¬ s.2.length < s.1.length) : ∀ n, bfs zs R1 R2 n s = s
  | 0 => rfl
  | n + 1 => by unfold bfs; rw [if_neg h]
theorem bfs_step {zs : List Nat} {R1 R2 : Rows} {s : BS} (h : s.2.length < s.1.length) (n : Nat) : bfs zs R1 R2 (n + 1) s = bfs zs R1 R2 n (turnB zs R1 R2 s) := by
  rw [bfs, if_pos h]

theorem addP_mem (ps : PS) (q : Nat × Nat) : q ∈ addP ps q := by
  unfold addP
  split
  · assumption
  · simp
theorem addP_pre (ps : PS) (q : Nat × Nat) : ∃ t, addP ps q = ps ++ t := by
  unfold addP
  split
  · exact ⟨[], by simp⟩
  · exact ⟨[q], rfl⟩
theorem addP_nodup {ps : PS} {q : Nat × Nat} (h : ps.Nodup) : (addP ps q).Nodup := by
  unfold addP
  split
  · exact h
  · rename_i hq
    rw [List.nodup_append]
    refine ⟨h, by simp, ?_⟩
    intro a ha b hb e
    simp at hb
    subst hb
    exact hq (e ▸ ha)
theorem addP_all {ps : PS} {q : Nat × Nat} {P : Nat × Nat → Prop} (h : ∀ x ∈ ps, P x) (hq : P q) : ∀ x ∈ addP ps q, P x := by
  unfold addP
  split
  · exact h
  · intro x hx
    rcases List.mem_append.mp hx with h' | h'
    · exact h x h'
    · simp at h'
      rw [h']
      exact hq
/-- what a row comes to -/
theorem rowS_spec (f : Nat → (Nat × Nat) × List Nat) (P : Nat × Nat → Prop) : ∀ (cs : List Nat) (ps : PS) (row : List (Nat × List Nat)), (∀ c ∈ cs, P (f c).1) → ps.Nodup → (∀ x ∈ ps, P x) →
    (rowS f cs ps row).1.Nodup ∧ (∀ x ∈ (rowS f cs ps row).1, P x) ∧ (∃ t, (rowS f cs ps row).1 = ps ++ t) ∧
    ∃ r, (rowS f cs ps row).2 = row ++ r ∧ r.length = cs.length ∧ ∀ (i c : Nat), cs[i]? = some c → ∃ j : Nat, r[i]? = some (j, (f c).2) ∧ (rowS f cs ps row).1[j]? = some (f c).1
  | [], ps, row, _, h1, h2 => ⟨h1, h2, ⟨[], by simp [rowS]⟩, [], by simp [rowS], rfl, fun i c h => by simp at h⟩
  | c :: cs, ps, row, hf, h1, h2 => by
    have hc := hf c List.mem_cons_self
    obtain ⟨k1, k2, ⟨t, ht⟩, r, hr, hl, hi⟩ := rowS_spec f P cs (addP ps (f c).1) (row ++ [((addP ps (f c).1).idxOf (f c).1, (f c).2)]) (fun d hd => hf d (List.mem_cons_of_mem _ hd)) (addP_nodup h1) (addP_all h2 hc)
    obtain ⟨t0, ht0⟩ := addP_pre ps (f c).1
    refine ⟨k1, k2, ⟨t0 ++ t, ?_⟩, ((addP ps (f c).1).idxOf (f c).1, (f c).2) :: r, ?_, by simp [hl], fun i d hd => ?_⟩
    · show (rowS f cs _ _).1 = _
      rw [ht, ht0, List.append_assoc]
    · show (rowS f cs _ _).2 = _
      rw [hr, List.append_assoc]
      rfl
    · cases i with
      | zero =>
        simp at hd
        subst hd
        refine ⟨_, rfl, ?_⟩
        show (rowS f cs _ _).1[_]? = _
        have hm := addP_mem ps (f c).1
        have hlt := List.idxOf_lt_length_of_mem hm
        rw [ht, List.getElem?_append_left hlt, List.getElem?_eq_getElem hlt]
        simp
      | succ i =>
        simp at hd
        obtain ⟨j, h3, h4⟩ := hi i d hd
        exact ⟨j, by simpa using h3, h4⟩

/-- what holds of the pairs and rows between two turns -/
structure BInv (zs : List Nat) (R1 R2 : Rows) (s : BS) : Prop where
  nd : s.1.Nodup
  bd : ∀ p ∈ s.1, p.1 < R1.length ∧ p.2 < R2.length
  z : s.1[0]? = some (0, 0)
  le : s.2.length ≤ s.1.length
  row : ∀ row ∈ s.2, row.length = zs.length
  done : ∀ (i : Nat) (row : List (Nat × List Nat)) (p : Nat × Nat), s.2[i]? = some row → s.1[i]? = some p → ∀ (k c : Nat), zs[k]? = some c → ∃ j : Nat, row[k]? = some (j, (jt zs R1 R2 p c).2) ∧ s.1[j]? = some (jt zs R1 R2 p c).1
theorem jt_bd {zs : List Nat} {R1 R2 : Rows} (M1 : MachOk zs R1) (M2 : MachOk zs R2) {p : Nat × Nat} {c : Nat} (hp : p.1 < R1.length ∧ p.2 < R2.length) (hc : c ∈ zs) :
    ((jt zs R1 R2 p c).1.1 < R1.length ∧ (jt zs R1 R2 p c).1.2 < R2.length) ∧ (jt zs R1 R2 p c).2.length ≤ 1 ∧ ∀ d ∈ (jt zs R1 R2 p c).2, d ∈ zs := by
  have h1 := stp_lt M1 hp.1 hc
  have h2 := stp_out M1 hp.1 hc
  unfold jt
  split
  · exact ⟨⟨h1, hp.2⟩, by simp, fun d hd => nomatch hd⟩
  · rename_i h r e
    have hh : h ∈ zs := h2 h (by rw [e]; exact List.mem_cons_self)
    exact ⟨⟨h1, stp_lt M2 hp.2 hh⟩, stp_one M2 hp.2 hh, stp_out M2 hp.2 hh⟩
theorem BInv.init {zs : List Nat} {R1 R2 : Rows} (h1 : 1 ≤ R1.length) (h2 : 1 ≤ R2.length) : BInv zs R1 R2 ([(0, 0)], []) where
  nd := by simp
  bd := fun p hp => by simp at hp; subst hp; exact ⟨h1, h2⟩
  z := rfl
  le := Nat.zero_le _
  row := fun row h => nomatch h
  done := fun i row p h => by simp at h
theorem BInv.turn {zs : List Nat} {R1 R2 : Rows} (M1 : MachOk zs R1) (M2 : MachOk zs R2) {s : BS} (B : BInv zs R1 R2 s) (h : s.2.length < s.1.length) : BInv zs R1 R2 (turnB zs R1 R2 s) := by
  have hp : s.1[s.2.length]? = some (s.1.getD s.2.length (0, 0)) := by
    rw [List.getD_eq_getElem?_getD, List.getElem?_eq_getElem h]
    rfl
  have hpm : s.1.getD s.2.length (0, 0) ∈ s.1 := List.mem_of_getElem? hp
  have hb := B.bd _ hpm
  obtain ⟨k1, k2, ⟨t, ht⟩, r, hr, hl, hi⟩ := rowS_spec (jt zs R1 R2 (s.1.getD s.2.length (0, 0))) (fun p => p.1 < R1.length ∧ p.2 < R2.length) zs s.1 [] (fun c hc => (jt_bd M1 M2 hb hc).1) B.nd B.bd
  have e1 : (turnB zs R1 R2 s).1 = s.1 ++ t := ht
  have e2 : (turnB zs R1 R2 s).2 = s.2 ++ [r] := by
    show s.2 ++ [_] = _
    rw [hr]
    rfl
  have up : ∀ i p, s.1[i]? = some p → (turnB zs R1 R2 s).1[i]? = some p := fun i p hi => by
    rw [e1, List.getElem?_append_left (List.getElem?_eq_some_iff.mp hi).1]
    exact hi
  refine ⟨k1, k2, up _ _ B.z, ?_, fun row hrow => ?_, fun i row p hrow hp' k c hk => ?_⟩
  · rw [e2, e1, List.length_append, List.length_append]
    simp
    omega
  · rw [e2] at hrow
    rcases List.mem_append.mp hrow with q | q
    · exact B.row row q
    · simp at q
      rw [q]
      exact hl
  · rw [e2] at hrow
    by_cases hlt : i < s.2.length
    · rw [List.getElem?_append_left hlt] at hrow
      have hlt' : i < s.1.length := by omega
      have hp2 : s.1[i]? = some p := by
        rw [e1, List.getElem?_append_left hlt'] at hp'
        exact hp'
      obtain ⟨j, h3, h4⟩ := B.done i row p hrow hp2 k c hk
      exact ⟨j, h3, up _ _ h4⟩
    · have hi' : i = s.2.length := by
        have q := (List.getElem?_eq_some_iff.mp hrow).1
        rw [List.length_append] at q
        simp at q
        omega
      subst hi'
      rw [List.getElem?_append_right (Nat.le_refl _)] at hrow
      simp at hrow
      subst hrow
      have ep : p = s.1.getD s.2.length (0, 0) := Option.some.inj (hp'.symm.trans (up _ _ hp))
      subst ep
      obtain ⟨j, h3, h4⟩ := hi k c hk
      exact ⟨j, h3, h4⟩
theorem nodup_sub_len : ∀ {l m : List Nat}, l.Nodup → l ⊆ m → l.length ≤ m.length
  | [], m, _, _ => Nat.zero_le _
  | a :: l, m, hn, hs => by
    have ha : a ∈ m := hs List.mem_cons_self
    have hn' := List.nodup_cons.mp hn
    have h1 : l ⊆ m.erase a := fun x hx => by
      have hxa : x ≠ a := fun e => hn'.1 (e ▸ hx)
      exact (List.mem_erase_of_ne hxa).mpr (hs (List.mem_cons_of_mem _ hx))
    have h2 := nodup_sub_len hn'.2 h1
    rw [List.length_erase_of_mem ha] at h2
    have h3 : 0 < m.length := List.length_pos_of_mem ha
    rw [List.length_cons]
    omega
/-- pairs below bounds, none twice: at most so many -/
theorem nodup_le : ∀ (l : List (Nat × Nat)) (m n : Nat), l.Nodup → (∀ p ∈ l, p.1 < m ∧ p.2 < n) → l.length ≤ m * n := by
  intro l m n hn hb
  have h2 : (l.map fun p => p.1 * n + p.2).Nodup := by
    rw [List.nodup_iff_pairwise_ne] at hn
    show List.Pairwise _ _
    rw [List.pairwise_map]
    refine List.Pairwise.imp_of_mem (fun {a b} ha hb' hab e => hab ?_) hn
    have h3 := (hb a ha).2
    have h4 := (hb b hb').2
    have e1 : a.1 = b.1 := by
      have q1 : (a.1 * n + a.2) / n = a.1 := by
        rw [Nat.mul_comm, Nat.mul_add_div (by omega), Nat.div_eq_of_lt h3, Nat.add_zero]
      have q2 : (b.1 * n + b.2) / n = b.1 := by
        rw [Nat.mul_comm, Nat.mul_add_div (by omega), Nat.div_eq_of_lt h4, Nat.add_zero]
      rw [← q1, ← q2, e]
    have e2 : a.2 = b.2 := by rw [e1] at e; omega
    exact Prod.ext e1 e2
  have h3 : (l.map fun p => p.1 * n + p.2) ⊆ List.range (m * n) := by
    intro x hx
    obtain ⟨p, hp, rfl⟩ := List.mem_map.mp hx
    obtain ⟨h4, h5⟩ := hb p hp
    rw [List.mem_range]
    calc p.1 * n + p.2 < p.1 * n + n := by omega
      _ = (p.1 + 1) * n := by rw [Nat.add_mul, Nat.one_mul]
      _ ≤ m * n := Nat.mul_le_mul_right _ h4
  have h4 := nodup_sub_len h2 h3
  rw [List.length_map, List.length_range] at h4
  exact h4
end FX
set_option Elab.async false
set_option linter.all false
set_option maxRecDepth 100000
set_option maxHeartbeats 4000000
/-! own rules: enumerate over a text and over a tuple -/
namespace FX
open PySem PySem.Spec PyProof.Rows L2
theorem units1 {k : Nat} {A : Around} (r : Room k A) : A.units + 65 < cLine := by have := r.un; omega

set_option maxHeartbeats 1000000 in
theorem meets_enum1 {v : Value} {o : Obj} {H : Heap → Prop} (B : Begins v o H) :
    Meets (Builtin.«enumerate.__new__» ⟨[.type "enumerate", v], []⟩) (fun _ R s => H s.heap ∧
      R (.ok (.ret (.ref (s.heap.push o).objs.size))) { s with heap := (s.heap.push o).push { cls := .type "enumerate", data := .fields #[.none, .bool false, .ref s.heap.objs.size, rawInt 0, .none, .none] } }) :=
  .of_wp fun prog w A R s h => by
    obtain ⟨hp, g, d, tk, os⟩ := s; obtain ⟨h1, h⟩ := h
    have hsub := sub_enumerate
    have q1 : ∀ {A' : Around} {E : Value → Shared → Prop} {Q : Value → Shared → Prop}, Q (.ref hp.objs.size) ⟨hp.push o, g, d, tk, os⟩ → wpAny (model prog w) A' (pyIter v) Q E ⟨hp, g, d, tk, os⟩ :=
      fun q => B.iter prog w _ _ ⟨hp, g, d, tk, os⟩ _ h1 q
    wp_walk using q1
    refine wpAny_stack_any fun st => wpAny_pure ?_
    split
    · rename_i c _ _ _ _ _
      cases (c == Value.type "enumerate")
      · wp_walk using q1
        exact ⟨_, rfl, h⟩
      · wp_walk using q1
        exact ⟨_, rfl, h⟩
    · wp_walk using q1
      exact ⟨_, rfl, h⟩
section
variable {prog : Program} {w : World} {A : Around} {E : Value → Shared → Prop} {s : Shared}
theorem call_enum1 {v : Value} {o : Obj} {H : Heap → Prop} {Q : Value → Shared → Prop} (B : Begins v o H) (h1 : H s.heap)
    (h : ∀ h', IsEnum h' (s.heap.objs.size + 1) s.heap.objs.size 0 .none → h'.get? s.heap.objs.size = some o → h'.objs.size = s.heap.objs.size + 2 →
      (∀ b o, s.heap.get? b = some o → h'.get? b = some o) → Q (.ref (s.heap.objs.size + 1)) { s with heap := h' }) :
    wpAny (model prog w) A (call (.type "enumerate") [v]) Q E s := by
  refine callType_new F.called_enumerate (by decide) (F.typeCall_enumerate_1 _) (F.newCall_enumerate_1 _) (fun obj => F.args_object_init_2 obj _) F.entry_enumerate_new
    (meets_enum1 B) ⟨h1, ?_⟩
  have hz : (s.heap.push o).objs.size = s.heap.objs.size + 1 := Heap.size_push ..
  show _ ∧ _
  rw [hz]
  have he : IsEnum ((s.heap.push o).push { cls := .type "enumerate", data := .fields #[.none, .bool false, .ref s.heap.objs.size, rawInt 0, .none, .none] }) (s.heap.objs.size + 1) s.heap.objs.size 0 .none := by
    have := Heap.get?_push_size (s.heap.push o) (o := { cls := .type "enumerate", data := .fields #[.none, .bool false, .ref s.heap.objs.size, rawInt 0, .none, .none] }) rfl
    rw [hz] at this; exact this
  refine ⟨⟨_, he, rfl⟩, h _ he (Heap.get?_push_of_some _ (Heap.get?_push_size _ B.free)) (by rw [Heap.size_push, hz]) fun b o x => Heap.get?_push_of_some _ (Heap.get?_push_of_some _ x)⟩
end

/-! ### enumerate(text) -/
def Ites (x : Str) : It :=
  ⟨fun i _ => i < x.cps.size, fun i H v H' => ∃ T c, v = .ref T ∧ H T = none ∧ H' = upd H T (.tup [.int (i : Nat), .str ⟨#[c]⟩]) ∧ x.cps[i]? = some c, fun i _ => x.cps.size ≤ i⟩
theorem turn_enumS {P : Program} {w : World} {K : PySem.W.Frag} {elts : List Expr} {kk : Nat} {tpos : Pos} (e it : Addr) (x : Str) (t : Tok) :
    Turn P w K (.Tuple elts kk tpos) (Ites x) [e, it] e (fun i h => (∃ old, IsEnum h e it ((i : Nat) : Int) old) ∧ h.IsStrIter it (strIterType x) x t i ∧ e ≠ it) where
  mem := by simp
  obj := fun i h st b hb => by
    obtain ⟨⟨old, he⟩, ⟨o, ho, hc, hd⟩, _⟩ := st
    have e' : b = e ∨ b = it := by simpa using hb
    rcases e' with z | z
    · rw [z]; exact ⟨_, he, fun v q => nomatch q⟩
    · rw [z]; exact ⟨o, ho, fun v q => by rw [hd] at q; cases q⟩
  keep := fun i h h' st k => let ⟨⟨old, he⟩, ⟨o, ho, r⟩, hne⟩ := st; ⟨⟨old, k e (by simp) _ he⟩, ⟨o, k it (by simp) o ho, r⟩, hne⟩
  item := by
    intro X hP hw hK hc i pins s σ H E I hf st hg
    subst hP hw hK
    obtain ⟨⟨old, he⟩, hit, hne⟩ := st
    have hel : e < s.heap.objs.size := Heap.lt_size he
    have hil : it < s.heap.objs.size := by obtain ⟨_, q, _⟩ := hit; exact Heap.lt_size q
    have D := Draws.text (prog := X.prog) (w := X.w) (A := X.A.in1) (I.ok.hd hc) it x t
    refine wpAny_pyNext_enum_itemD D he hit hg hne (by simp [hne]) fun u h' tk hP ho hit' hT hsz hk => ?_
    obtain ⟨c, u', hcx, rfl⟩ := hP
    refine ⟨_, rfl, wpAny_letOwnedTupleGo_enum (s := { s with heap := h', toks := tk + 1 }) ho fun h'' he' sb => ?_⟩
    have hT2 : h''.get? s.heap.objs.size = some { cls := .type "tuple", data := .seq #[.int i tk, .str ⟨#[c]⟩ u'] } := (sb.2 _ (Nat.ne_of_gt hel)).trans hT
    have new : ObjOk X.prog X.w (upd H s.heap.objs.size (.tup [.int (i : Nat), .str ⟨#[c]⟩])) h'' s.heap.objs.size (.tup [.int (i : Nat), .str ⟨#[c]⟩]) :=
      ⟨by show 2 ≤ sizeLine; decide, [.int i tk, .str ⟨#[c]⟩ u'], .cons ⟨_, rfl⟩ (.cons ⟨_, rfl⟩ .nil), ⟨_, hT2, rfl, _, rfl⟩⟩
    have I1 : Inv X pins σ (upd H s.heap.objs.size (.tup [.int (i : Nat), .str ⟨#[c]⟩])) { s with heap := h'', toks := tk + 1 } :=
      I.turnedNew (ch := [e, it]) (fun b ob hb q => (sb.2 b (fun z => hb (by simp [z]))).trans (hk b ob (fun z => hb (by simp [z])) (fun z => hb (by simp [z])) q)) hf (Nat.le_refl _) new
    obtain ⟨oi, q1, q2, q3⟩ := hit'
    refine ⟨.ref s.heap.objs.size, _, I1, rfl, ⟨_, c, rfl, I.hok.fresh (Nat.le_refl _), rfl, hcx⟩, ⟨⟨.str ⟨#[c]⟩ u', ?_⟩, ⟨oi, (sb.2 it (Ne.symm hne)).trans q1, q2, q3⟩, hne⟩, fun b hb => ?_⟩
    · have e1 : ((i + 1 : Nat) : Int) = (i : Int) + 1 := by omega
      rw [e1]; exact he'
    · have hb' : b < s.heap.objs.size := by
        have e' : b = e ∨ b = it := by simpa using hb
        rcases e' with z | z
        · rw [z]; exact hel
        · rw [z]; exact hil
      rw [upd_ne (Nat.ne_of_lt hb')]
      exact (hf b hb).1
  done := by
    intro X hP hw hK hc i pins s σ H E I hf st hg
    subst hP hw hK
    obtain ⟨⟨old, he⟩, hit, hne⟩ := st
    obtain ⟨f0, f1, f2, f3, f4, f5⟩ := hf it (by simp)
    have hx : x.cps[i]? = none := Array.getElem?_eq_none hg
    have D : Draws X.prog X.w X.A.in1 it [it] i (fun _ _ => False) (fun j h => j = i ∧ h.IsStrIter it (strIterType x) x t i) := by
      refine ⟨fun j h st => let ⟨_, o, ho, _⟩ := st; ⟨o, ho⟩, fun j h h' st k => let ⟨e, o, ho, r⟩ := st; ⟨e, o, k it (by simp) o ho, r⟩, fun j s Q E hj st => absurd st.1 (Nat.ne_of_lt hj), fun s Q E st hE => ?_⟩
      have hh : X.A.in1.handled = none := I.ok.hd hc
      have st' := st.2
      unfold strIterType at st'
      cases ha : x.cps.all (· < 128)
      · rw [ha] at st'
        exact wpAny_nextOf_wide_end hh st' hx hE
      · rw [ha] at st'
        exact wpAny_nextOf_ascii_end hh st' hx hE
    exact wpAny_pyNext_enum_endD D he ⟨rfl, hit⟩ fun h' eb => ⟨rfl, I.turned (t' := s.toks) (fun b o hb q => eb b o hb q) f0 f1 f3 f4 f5⟩
  self := fun A i s Q E st h => let ⟨⟨_, he⟩, _⟩ := st; wpAny_pyIter_enum he h
def iEnumS (ta : TA) : TI := fun σ H R => ta σ H fun vs H1 => ∃ x, vs = [.str x] ∧ R (Ites x) H1
theorem pi_enumS {X : Cx} {e : Expr} {ta : TA} {p pos tpos : Pos} {elts : List Expr} {kk : Nat} (hg : Gl X "enumerate") (hm : X.mg "enumerate" = none) (ha : PA X [e] ta) (hs : starEach [e] X.env = [(false, eval e X.env)] := by rfl) :
    PI X (.Tuple elts kk tpos) (.Call (.Name "enumerate" p) [e] [] pos) (iEnumS ta) := by
  refine ⟨fun pins s σ H R I h => ?_⟩
  refine Call_ (ld_blt I hg hm boot_enumerate (PyProof.Rows.callWith_type1 (thn (ha.run pos pins s σ H _ I h) fun us s1 ⟨vs, H1, I1, r1, q1⟩ => ?_) hs rfl))
  obtain ⟨x, ex, q⟩ := q1
  subst ex
  cases r1 with
  | cons r rr =>
    cases rr
    obtain ⟨t, rfl⟩ := r
    refine call_enum1 (begins_text x t) trivial fun h' he hit hsz hk => wpAny_pyIter_enum he ?_
    have I2 : Inv X pins σ H1 { s1 with heap := h' } := I1.kept (t' := s1.toks) hk
    refine ⟨s1.heap.objs.size + 1, [s1.heap.objs.size + 1, s1.heap.objs.size], _, _, H1, rfl, I2, turn_enumS (s1.heap.objs.size + 1) s1.heap.objs.size x t, ⟨⟨.none, he⟩, ⟨_, hit, rfl, rfl⟩, Nat.succ_ne_self _⟩, fun b hb => ?_, q⟩
    have e' : b = s1.heap.objs.size + 1 ∨ b = s1.heap.objs.size := by simpa using hb
    have hle : s1.heap.objs.size ≤ b := by
      rcases e' with z | z
      · rw [z]; exact Nat.le_add_right _ _
      · rw [z]; exact Nat.le_refl _
    exact I1.fpOk hle (I1.hok.fresh hle)
theorem walk_enumS {z : Str} : Walk (Ites z) z.cps.size (fun _ => True) (fun i H v H' => ∃ T c, v = .ref T ∧ H T = none ∧ H' = upd H T (.tup [.int (i : Nat), .str ⟨#[c]⟩]) ∧ z.cps[i]? = some c) :=
  ⟨fun _ _ hi _ => hi, fun _ _ => Nat.le_refl _, fun _ _ _ _ _ _ y => y⟩

/-! ### enumerate(tuple) -/
def Itet (K : PySem.W.Frag) (a : Addr) : It :=
  ⟨fun i H => ∃ (xs : List V) (x : V), SqT K H a xs ∧ xs[i]? = some x, fun i H v H' => ∃ T x, v = .ref T ∧ H T = none ∧ H' = upd H T (.tup [.int (i : Nat), x]) ∧ ∀ xs, SqT K H a xs → xs[i]? = some x, fun i H => ∃ xs : List V, SqT K H a xs ∧ xs.length ≤ i⟩
theorem turn_enumT {P : Program} {w : World} {K : PySem.W.Frag} {elts : List Expr} {kk : Nat} {tpos : Pos} (a e it : Addr) :
    Turn P w K (.Tuple elts kk tpos) (Itet K a) [e, it] e (fun i h => (∃ old, IsEnum h e it ((i : Nat) : Int) old) ∧ h.IsTupleIter it a i ∧ e ≠ it) where
  mem := by simp
  obj := fun i h st b hb => by
    obtain ⟨⟨old, he⟩, ⟨o, ho, hc, hd⟩, _⟩ := st
    have e' : b = e ∨ b = it := by simpa using hb
    rcases e' with z | z
    · rw [z]; exact ⟨_, he, fun v q => nomatch q⟩
    · rw [z]; exact ⟨o, ho, fun v q => by rw [hd] at q; cases q⟩
  keep := fun i h h' st k => let ⟨⟨old, he⟩, hi, hne⟩ := st; ⟨⟨old, k e (by simp) _ he⟩, hi.at fun o q => k it (by simp) o q, hne⟩
  item := by
    intro X hP hw hK hc i pins s σ H E I hf st hg
    subst hP hw hK
    obtain ⟨⟨old, he⟩, hit, hne⟩ := st
    obtain ⟨xs, x, hq, hx⟩ := hg
    obtain ⟨its, rv, p, hz⟩ := I.tuple hq
    obtain ⟨u, hu, ru⟩ := rv.get hx
    have hel : e < s.heap.objs.size := Heap.lt_size he
    have hil : it < s.heap.objs.size := by obtain ⟨_, q, _⟩ := hit; exact Heap.lt_size q
    have hai : a ≠ it := by
      intro z
      obtain ⟨o1, g1, c1, _⟩ := hit
      obtain ⟨o2, g2, c2, _⟩ := p
      rw [z, g1] at g2
      cases g2
      rw [c1] at c2
      injection c2 with c3
      exact absurd c3 (by decide)
    have D := Draws.tuple (prog := X.prog) (w := X.w) (A := X.A.in1) (I.ok.hd hc) it a hai its.toArray
    have hne' : e ≠ a := by
      intro z
      obtain ⟨o2, g2, c2, _⟩ := p
      have he' : s.heap.get? e = _ := he
      rw [← z, he'] at g2
      cases g2
      injection c2 with c3
      exact absurd c3 (by decide)
    have hlt : i < its.toArray.size := by
      have q := List.getElem?_eq_some_iff.mp hu
      simpa using q.1
    refine wpAny_pyNext_enum_itemD D he ⟨hit, (show s.heap.IsTuple a its.toArray from p)⟩ hlt hne (by simp [hne, hne']) fun x' h' tk hP ho hit' hT hsz hk => ?_
    have ex : x' = u := by
      have q : its.toArray[i]? = some u := by simpa using hu
      exact Option.some.inj (hP.symm.trans q)
    subst ex
    refine ⟨_, rfl, wpAny_letOwnedTupleGo_enum (s := { s with heap := h', toks := tk + 1 }) ho fun h'' he' sb => ?_⟩
    have hT2 : h''.get? s.heap.objs.size = some { cls := .type "tuple", data := .seq #[.int i tk, x'] } := (sb.2 _ (Nat.ne_of_gt hel)).trans hT
    have new : ObjOk X.prog X.w (upd H s.heap.objs.size (.tup [.int (i : Nat), x])) h'' s.heap.objs.size (.tup [.int (i : Nat), x]) :=
      ⟨by show 2 ≤ sizeLine; decide, [.int i tk, x'], .cons ⟨_, rfl⟩ (.cons ru .nil), ⟨_, hT2, rfl, _, rfl⟩⟩
    have I1 : Inv X pins σ (upd H s.heap.objs.size (.tup [.int (i : Nat), x])) { s with heap := h'', toks := tk + 1 } :=
      I.turnedNew (ch := [e, it]) (fun b ob hb q => (sb.2 b (fun z => hb (by simp [z]))).trans (hk b ob (fun z => hb (by simp [z])) (fun z => hb (by simp [z])) q)) hf (Nat.le_refl _) new
    refine ⟨.ref s.heap.objs.size, _, I1, rfl, ⟨_, x, rfl, I.hok.fresh (Nat.le_refl _), rfl, fun ys hy => by rw [I.tuple_inj hy hq]; exact hx⟩, ⟨⟨x', ?_⟩, hit'.1.at fun o q => (sb.2 it (Ne.symm hne)).trans q, hne⟩, fun b hb => ?_⟩
    · have e1 : ((i + 1 : Nat) : Int) = (i : Int) + 1 := by omega
      rw [e1]; exact he'
    · have hb' : b < s.heap.objs.size := by
        have e' : b = e ∨ b = it := by simpa using hb
        rcases e' with z | z
        · rw [z]; exact hel
        · rw [z]; exact hil
      rw [upd_ne (Nat.ne_of_lt hb')]
      exact (hf b hb).1
  done := by
    intro X hP hw hK hc i pins s σ H E I hf st hg
    subst hP hw hK
    obtain ⟨⟨old, he⟩, hit, hne⟩ := st
    obtain ⟨xs, hq, hx⟩ := hg
    obtain ⟨its, rv, p, hz⟩ := I.tuple hq
    obtain ⟨f0, f1, f2, f3, f4, f5⟩ := hf it (by simp)
    have hl := rv.length
    have D : Draws X.prog X.w X.A.in1 it [it, a] i (fun _ _ => False) (fun j h => j = i ∧ h.IsTupleIter it a i ∧ h.IsTuple a its.toArray) := by
      refine ⟨fun j h st => let ⟨_, ⟨o, ho, _⟩, _⟩ := st; ⟨o, ho⟩, fun j h h' st k => ⟨st.1, st.2.1.at fun o e => k it (by simp) o e, st.2.2.at fun o e => k a (by simp) o e⟩, fun j s Q E hj st => absurd st.1 (Nat.ne_of_lt hj), fun s Q E st hE => ?_⟩
      exact wpAny_nextOf_tuple_end (I.ok.hd hc) st.2.1 st.2.2 (by simp; omega) hE
    exact wpAny_pyNext_enum_endD D he ⟨rfl, hit, (show s.heap.IsTuple a its.toArray from p)⟩ fun h' eb => ⟨rfl, I.turned (t' := s.toks) (fun b o hb q => eb b o hb q) f0 f1 f3 f4 f5⟩
  self := fun A i s Q E st h => let ⟨⟨_, he⟩, _⟩ := st; wpAny_pyIter_enum he h
def iEnumT (K : PySem.W.Frag) (ta : TA) : TI := fun σ H R => ta σ H fun vs H1 => ∃ a xs, vs = [.ref a] ∧ SqT K H1 a xs ∧ R (Itet K a) H1
theorem pi_enumT {X : Cx} {e : Expr} {ta : TA} {p pos tpos : Pos} {elts : List Expr} {kk : Nat} (hg : Gl X "enumerate") (hm : X.mg "enumerate" = none) (ha : PA X [e] ta) (hs : starEach [e] X.env = [(false, eval e X.env)] := by rfl) :
    PI X (.Tuple elts kk tpos) (.Call (.Name "enumerate" p) [e] [] pos) (iEnumT X.K ta) := by
  refine ⟨fun pins s σ H R I h => ?_⟩
  refine Call_ (ld_blt I hg hm boot_enumerate (PyProof.Rows.callWith_type1 (thn (ha.run pos pins s σ H _ I h) fun us s1 ⟨vs, H1, I1, r1, q1⟩ => ?_) hs rfl))
  obtain ⟨a, xs, ex, hq, q⟩ := q1
  subst ex
  cases r1 with
  | cons r rr =>
    cases rr
    cases r
    obtain ⟨its, rv, p', hz⟩ := I1.tuple hq
    refine call_enum1 (begins_tuple a its.toArray) (show s1.heap.IsTuple a its.toArray from p') fun h' he hit hsz hk => wpAny_pyIter_enum he ?_
    have I2 : Inv X pins σ H1 { s1 with heap := h' } := I1.kept (t' := s1.toks) hk
    refine ⟨s1.heap.objs.size + 1, [s1.heap.objs.size + 1, s1.heap.objs.size], _, _, H1, rfl, I2, turn_enumT a (s1.heap.objs.size + 1) s1.heap.objs.size, ⟨⟨.none, he⟩, ⟨_, hit, rfl, rfl⟩, Nat.succ_ne_self _⟩, fun b hb => ?_, q⟩
    have e' : b = s1.heap.objs.size + 1 ∨ b = s1.heap.objs.size := by simpa using hb
    have hle : s1.heap.objs.size ≤ b := by
      rcases e' with z | z
      · rw [z]; exact Nat.le_add_right _ _
      · rw [z]; exact Nat.le_refl _
    exact I1.fpOk hle (I1.hok.fresh hle)
theorem walk_enumT {K : PySem.W.Frag} {a : Addr} {xs : List V} : Walk (Itet K a) xs.length (fun H => SqT K H a xs) (YPair (fun i => some (.int (i : Nat))) (fun i => xs[i]?)) := by
  refine ⟨fun i _ hi q => ⟨xs, xs[i], q, by simp [hi]⟩, fun _ q => ⟨xs, q, Nat.le_refl _⟩, fun i H v H' _ q y => ?_⟩
  obtain ⟨T, x, h1, h2, h3, h4⟩ := y
  exact ⟨T, .int (i : Nat), x, h1, h2, h3, rfl, h4 xs q⟩
end FX
set_option linter.all false
/-! the ready machines -/
namespace FX
def copyRow (zs : List Nat) (s : Nat) : List (Nat × List Nat) := zs.map fun c => (s, [c])
def plainR (zs : List Nat) : Rows := [copyRow zs 0]
def cutR (zs : List Nat) (n : Nat) : Rows := ((List.range n).map fun s => copyRow zs (s + 1)) ++ [List.replicate zs.length (n, [])]
def stripR (zs some : List Nat) : Rows := [zs.map fun c => if c ∈ some then (0, []) else (1, [c]), copyRow zs 1]
def turnsR (zs silent : List Nat) : List (Nat × List Nat) := (List.range zs.length).map fun i => (i + 1, if [zs.getD i 0] = silent then [] else [zs.getD i 0])
def squeezeR (zs some : List Nat) : Rows := turnsR zs [] :: zs.map fun l => turnsR zs (if l ∈ some then [l] else [])
theorem copyRow_mem {zs : List Nat} {s : Nat} {t : Nat × List Nat} (h : t ∈ copyRow zs s) : t.1 = s ∧ t.2.length ≤ 1 ∧ ∀ c ∈ t.2, c ∈ zs := by
  obtain ⟨c, hc, rfl⟩ := List.mem_map.mp h
  exact ⟨rfl, by simp, fun d hd => by simp at hd; rw [hd]; exact hc⟩
theorem turnsR_mem {zs silent : List Nat} {t : Nat × List Nat} (h : t ∈ turnsR zs silent) : t.1 ≤ zs.length ∧ t.2.length ≤ 1 ∧ ∀ c ∈ t.2, c ∈ zs := by
  obtain ⟨i, hi, rfl⟩ := List.mem_map.mp h
  have hi' := List.mem_range.mp hi
  refine ⟨hi', ?_, ?_⟩
  · show (if _ then _ else _ : List Nat).length ≤ 1
    split <;> simp
  · intro d hd
    replace hd : d ∈ (if [zs.getD i 0] = silent then [] else [zs.getD i 0]) := hd
    split at hd
    · cases hd
    · simp at hd
      rw [hd]
      rw [List.getElem?_eq_getElem hi']
      exact List.getElem_mem hi'
theorem plain_ok (zs : List Nat) : MachOk zs (plainR zs) where
  pos := Nat.le_refl _
  rows := fun row h => by simp [plainR] at h; subst h; simp [copyRow]
  st := fun row h t ht => by simp [plainR] at h; subst h; rw [(copyRow_mem ht).1]; exact Nat.zero_lt_one
  one := fun row h t ht => by simp [plainR] at h; subst h; exact (copyRow_mem ht).2.1
  out := fun row h t ht => by simp [plainR] at h; subst h; exact (copyRow_mem ht).2.2
theorem cut_len (zs : List Nat) (n : Nat) : (cutR zs n).length = n + 1 := by simp [cutR]
theorem cut_mem {zs : List Nat} {n : Nat} {row : List (Nat × List Nat)} (h : row ∈ cutR zs n) : (∃ s, s < n ∧ row = copyRow zs (s + 1)) ∨ row = List.replicate zs.length (n, []) := by
  rcases List.mem_append.mp h with h | h
  · obtain ⟨s, hs, rfl⟩ := List.mem_map.mp h
    exact .inl ⟨s, List.mem_range.mp hs, rfl⟩
  · simp at h
    exact .inr h
theorem cut_ok (zs : List Nat) (n : Nat) : MachOk zs (cutR zs n) where
  pos := by rw [cut_len]; omega
  rows := fun row h => by
    rcases cut_mem h with ⟨s, _, rfl⟩ | rfl
    · simp [copyRow]
    · simp
  st := fun row h t ht => by
    rw [cut_len]
    rcases cut_mem h with ⟨s, hs, rfl⟩ | rfl
    · rw [(copyRow_mem ht).1]; omega
    · rw [(List.mem_replicate.mp ht).2]; exact Nat.lt_succ_self n
  one := fun row h t ht => by
    rcases cut_mem h with ⟨s, hs, rfl⟩ | rfl
    · exact (copyRow_mem ht).2.1
    · rw [(List.mem_replicate.mp ht).2]; exact Nat.zero_le _
  out := fun row h t ht => by
    rcases cut_mem h with ⟨s, hs, rfl⟩ | rfl
    · exact (copyRow_mem ht).2.2
    · rw [(List.mem_replicate.mp ht).2]; exact fun c hc => nomatch hc
theorem strip_ok (zs some : List Nat) : MachOk zs (stripR zs some) := by
  have h0 : ∀ t ∈ (zs.map fun c => if c ∈ some then ((0, []) : Nat × List Nat) else (1, [c])), t.1 < 2 ∧ t.2.length ≤ 1 ∧ ∀ c ∈ t.2, c ∈ zs := by
    intro t ht
    obtain ⟨c, hc, rfl⟩ := List.mem_map.mp ht
    split
    · exact ⟨by decide, by simp, fun d hd => nomatch hd⟩
    · exact ⟨Nat.lt_succ_self 1, by simp, fun d hd => by simp at hd; rw [hd]; exact hc⟩
  have h1 : ∀ t ∈ copyRow zs 1, t.1 < 2 ∧ t.2.length ≤ 1 ∧ ∀ c ∈ t.2, c ∈ zs := fun t ht => by
    have := copyRow_mem ht
    exact ⟨by rw [this.1]; decide, this.2⟩
  have hall : ∀ row ∈ stripR zs some, row.length = zs.length ∧ ∀ t ∈ row, t.1 < 2 ∧ t.2.length ≤ 1 ∧ ∀ c ∈ t.2, c ∈ zs := by
    intro row h
    simp only [stripR, List.mem_cons, List.mem_nil_iff, or_false] at h
    rcases h with rfl | rfl
    · exact ⟨by simp, h0⟩
    · exact ⟨by simp [copyRow], h1⟩
  exact ⟨by simp [stripR], fun row h => (hall row h).1, fun row h t ht => ((hall row h).2 t ht).1, fun row h t ht => ((hall row h).2 t ht).2.1, fun row h t ht => ((hall row h).2 t ht).2.2⟩
theorem squeeze_len (zs some : List Nat) : (squeezeR zs some).length = zs.length + 1 := by simp [squeezeR]
theorem squeeze_ok (zs some : List Nat) : MachOk zs (squeezeR zs some) := by
  have hall : ∀ row ∈ squeezeR zs some, ∃ sl, row = turnsR zs sl := by
    intro row h
    rcases List.mem_cons.mp h with rfl | h
    · exact ⟨_, rfl⟩
    · obtain ⟨l, _, rfl⟩ := List.mem_map.mp h
      exact ⟨_, rfl⟩
  refine ⟨by rw [squeeze_len]; omega, fun row h => ?_, fun row h t ht => ?_, fun row h t ht => ?_, fun row h t ht => ?_⟩
  · obtain ⟨sl, rfl⟩ := hall row h
    simp [turnsR]
  · obtain ⟨sl, rfl⟩ := hall row h
    rw [squeeze_len]
    have := (turnsR_mem ht).1
    omega
  · obtain ⟨sl, rfl⟩ := hall row h
    exact (turnsR_mem ht).2.1
  · obtain ⟨sl, rfl⟩ := hall row h
    exact (turnsR_mem ht).2.2
end FX
set_option Elab.async false
set_option linter.all false
set_option maxRecDepth 100000
set_option maxHeartbeats 4000000
namespace FX
open PySem PySem.Spec PyProof.Rows L2
/-! ### heaps -/
theorem same_upd {H : Hp} {p : Addr} {o : HO} (h : H p = none) : Same H (upd H p o) := fun b x e => by
  rw [upd_ne (ne_of_none e h)]
  exact e
theorem Same.up {H H1 : Hp} {p : Addr} {o : HO} (s : Same H H1) (h : H1 p = none) : Same H (upd H1 p o) := s.trans (same_upd h)
/-- a store to an object that is new since H -/
theorem Same.set {H H1 : Hp} {p : Addr} {o : HO} (s : Same H H1) (h : H p = none) : Same H (upd H1 p o) := fun b x e => by
  rw [upd_ne (ne_of_none e h)]
  exact s b x e
theorem SqT.same {K : PySem.W.Frag} {H H' : Hp} {a : Addr} {xs : List V} (e : Same H H') (h : SqT K H a xs) : SqT K H' a xs := SqT.ext h e
mutual
theorem Dp.same {K : PySem.W.Frag} {H H' : Hp} (e : Same H H') : ∀ {v : V} {d : PyData}, Dp K H v d → Dp K H' v d
  | _, _, .non => .non
  | _, _, .bl b => .bl b
  | _, _, .int i => .int i
  | _, _, .str x => .str x
  | _, _, .lst hs ha => .lst (e.seq hs) (DpAll.same e ha)
  | _, _, .tup hs ha => .tup (SqT.same e hs) (DpAll.same e ha)
theorem DpAll.same {K : PySem.W.Frag} {H H' : Hp} (e : Same H H') : ∀ {vs : List V} {ds : List PyData}, DpAll K H vs ds → DpAll K H' vs ds
  | _, _, .nil => .nil
  | _, _, .cons h t => .cons (Dp.same e h) (DpAll.same e t)
end
section
variable {K : PySem.W.Frag} {H : Hp}
theorem DpAll.len {vs : List V} {ds : List PyData} (h : DpAll K H vs ds) : vs.length = ds.length := by
  induction vs generalizing ds with
  | nil => cases h; rfl
  | cons v vs ih => cases h with | cons a b => rw [List.length_cons, List.length_cons, ih b]
theorem DpAll.get {vs : List V} {ds : List PyData} (h : DpAll K H vs ds) {i : Nat} {d : PyData} (e : ds[i]? = some d) : ∃ v, vs[i]? = some v ∧ Dp K H v d := by
  induction vs generalizing ds i with
  | nil => cases h; simp at e
  | cons v vs ih =>
    cases h with
    | cons a b =>
      cases i with
      | zero => simp at e; subst e; exact ⟨v, rfl, a⟩
      | succ i => simp at e; simpa using ih b e
theorem DpAll.get' {vs : List V} {ds : List PyData} (h : DpAll K H vs ds) {i : Nat} {v : V} (e : vs[i]? = some v) : ∃ d, ds[i]? = some d ∧ Dp K H v d := by
  induction vs generalizing ds i with
  | nil => simp at e
  | cons w vs ih =>
    cases h with
    | cons a b =>
      cases i with
      | zero => simp at e; subst e; exact ⟨_, rfl, a⟩
      | succ i => simp at e; simpa using ih b e
theorem DpAll.app {vs : List V} {ds : List PyData} (h : DpAll K H vs ds) {ws : List V} {es : List PyData} (h2 : DpAll K H ws es) : DpAll K H (vs ++ ws) (ds ++ es) := by
  induction vs generalizing ds with
  | nil => cases h; exact h2
  | cons v vs ih => cases h with | cons a b => exact .cons a (ih b)
theorem DpAll.one {v : V} {d : PyData} (h : Dp K H v d) : DpAll K H [v] [d] := .cons h .nil
theorem Dp.tupOf {v : V} {ds : List PyData} (h : Dp K H v (.tuple ds)) : ∃ a xs, v = .ref a ∧ SqT K H a xs ∧ DpAll K H xs ds := by
  cases h with | tup hs ha => exact ⟨_, _, rfl, hs, ha⟩
theorem Dp.lstOf {v : V} {ds : List PyData} (h : Dp K H v (.list ds)) : ∃ a xs, v = .ref a ∧ SqL K H a xs ∧ DpAll K H xs ds := by
  cases h with | lst hs ha => exact ⟨_, _, rfl, hs, ha⟩
theorem Dp.intOf {v : V} {i : Int} (h : Dp K H v (.int i)) : v = .int i := by cases h; rfl
theorem Dp.strOf {v : V} {s : Str} (h : Dp K H v (.str s)) : v = .str s := by cases h; rfl
theorem Dp.tupNew {p : Addr} {xs : List V} {ds : List PyData} (hp : H p = some (.tup xs)) (h : DpAll K H xs ds) : Dp K H (.ref p) (.tuple ds) := .tup (.inl (.inl hp)) h
theorem Dp.lstNew {p : Addr} {xs : List V} {ds : List PyData} (hp : H p = some (.lst xs)) (h : DpAll K H xs ds) : Dp K H (.ref p) (.list ds) := .lst (.inl (.inl hp)) h
theorem dpInts : ∀ ns : List Int, DpAll K H (ns.map V.int) (ns.map PyData.int)
  | [] => .nil
  | n :: r => .cons (.int n) (dpInts r)
end
/-! ### a heap without some of its objects -/
def hid (ls : List Addr) (H : Hp) : Hp := fun b => if b ∈ ls then none else H b
theorem hid_out {ls : List Addr} {H : Hp} {b : Addr} (h : b ∉ ls) : hid ls H b = H b := if_neg h
theorem hid_sub (ls : List Addr) (H : Hp) : Same (hid ls H) H := fun b o e => by
  unfold hid at e
  split at e
  · cases e
  · exact e
theorem hid_same {ls : List Addr} {H H' : Hp} (h : ∀ b o, b ∉ ls → H b = some o → H' b = some o) : Same (hid ls H) (hid ls H') := fun b o e => by
  unfold hid at e ⊢
  split at e
  · cases e
  · rename_i hb
    rw [if_neg hb]
    exact h b o hb e
theorem hid_upd {ls : List Addr} {H : Hp} {l : Addr} {o : HO} (h : l ∈ ls) : hid ls (upd H l o) = hid ls H := by
  funext b
  unfold hid
  split
  · rfl
  · rename_i hb
    exact upd_ne fun e => hb (e ▸ h)
theorem hid_up {ls : List Addr} {H : Hp} {p : Addr} {o : HO} (h : H p = none) : Same (hid ls H) (hid ls (upd H p o)) := hid_same fun b x _ e => same_upd h b x e
/-- what is new since H -/
def New (H H' : Hp) : Hp := fun b => if H b = none then H' b else none
theorem new_sub (H H' : Hp) : Same (New H H') H' := fun b o e => by
  unfold New at e
  split at e
  · exact e
  · cases e
theorem new_hid {H H' : Hp} {ls : List Addr} (h : ∀ l ∈ ls, H l ≠ none) : Same (New H H') (hid ls H') := fun b o e => by
  unfold New at e
  split at e
  · rename_i hb
    rw [hid_out fun q => h b q hb]
    exact e
  · cases e
theorem new_mono {H H1 H2 H3 : Hp} (a : Same H H1) (b : Same H2 H3) : Same (New H1 H2) (New H H3) := fun x o e => by
  unfold New at e ⊢
  split at e
  · rename_i hx
    rw [if_pos (a.free hx)]
    exact b x o e
  · cases e
theorem new_at {H H' : Hp} {p : Addr} {o : HO} (h : H p = none) (h' : H' p = some o) : New H H' p = some o := by
  unfold New
  rw [if_pos h]
  exact h'
theorem new_trans {H H1 H2 : Hp} (b : Same H1 H2) : Same (New H H1) (New H H2) := new_mono (Same.refl H) b
/-- a comprehension that keeps every item: what each item is, of the heap without the list that grows -/
theorem lc_rel {J : It} {n : Nat} {G : Hp → Prop} {Y : Nat → Hp → V → Hp → Prop} (w : Walk J n G Y) {g : TG} {tt : TT} {te : TE} {vs : List Nat} {σ : L2.St} {H1 : Hp} {D : Addr} {Qd : Hp → Prop}
    (R : Nat → V → Hp → Prop) (hR : ∀ j v H H', Same H H' → R j v H → R j v H') (hD : H1 D = none) (hn : n < sizeLine) (hG : ∀ H, Same H1 H → G H)
    (hs : ∀ i x H H', i < n → Same H1 H → (∃ o, H D = some o) → Y i H x H' → (∀ y H4, Same H H4 → R i y (hid [D] H4) → ∃ acc, H4 D = some (.lst acc) ∧ acc.length < sizeLine ∧
        (Same H1 (upd H4 D (.lst (acc ++ [y]))) ∧ ∃ xs, upd H4 D (.lst (acc ++ [y])) D = some (.lst xs) ∧ xs.length = i + 1 ∧ ∀ j v, xs[j]? = some v → R j v (hid [D] (upd H4 D (.lst (acc ++ [y])))))) →
      g x (wipe σ vs) H' fun σ2 H2 => wipe σ2 vs = wipe σ vs ∧ tt σ2 H2 fun b H3 =>
      if b = true then te σ2 H3 fun y H4 => ∃ acc, H4 D = some (.lst acc) ∧ acc.length < sizeLine ∧
        (Same H1 (upd H4 D (.lst (acc ++ [y]))) ∧ ∃ xs, upd H4 D (.lst (acc ++ [y])) D = some (.lst xs) ∧ xs.length = i + 1 ∧ ∀ j v, xs[j]? = some v → R j v (hid [D] (upd H4 D (.lst (acc ++ [y])))))
      else (Same H1 H3 ∧ ∃ xs, H3 D = some (.lst xs) ∧ xs.length = i + 1 ∧ ∀ j v, xs[j]? = some v → R j v (hid [D] H3)))
    (hd : ∀ H xs, Same H1 H → H D = some (.lst xs) → xs.length = n → (∀ j v, xs[j]? = some v → R j v (hid [D] H)) → Qd H) :
    ∃ W : Nat → Nat → Hp → Prop, (∃ m, W 0 m (upd H1 D (.lst []))) ∧ ∀ i m H, W i m H →
      (J.stop i H ∧ Qd H) ∨ (J.go i H ∧ ∃ Nx : Hp → Prop, (∀ H', Nx H' → ∃ m', m' < m ∧ W (i + 1) m' H') ∧ ∀ x H', J.yld i H x H' → g x (wipe σ vs) H' fun σ2 H2 => wipe σ2 vs = wipe σ vs ∧ tt σ2 H2 fun b H3 =>
        if b = true then te σ2 H3 fun y H4 => ∃ acc, H4 D = some (.lst acc) ∧ acc.length < sizeLine ∧ Nx (upd H4 D (.lst (acc ++ [y]))) else Nx H3) := by
  refine lc_it w (fun i H => Same H1 H ∧ ∃ xs, H D = some (.lst xs) ∧ xs.length = i ∧ ∀ j v, xs[j]? = some v → R j v (hid [D] H)) ⟨same_upd hD, [], upd_same, rfl, fun j v h => by simp at h⟩ (fun i H _ h => hG H h.1) ?_ ?_
  · rintro i x H H' hi ⟨sm, xs, hx, hl, hr⟩ y
    refine hs i x H H' hi sm ⟨_, hx⟩ y fun y H4 s4 r4 => ?_
    have h4 := s4 _ _ hx
    refine ⟨xs, h4, by omega, fun b o e => ?_, xs ++ [y], upd_same, by simp [hl], fun j v hj => ?_⟩
    · rw [upd_ne (ne_of_none e hD)]
      exact s4 _ _ (sm _ _ e)
    · rw [hid_upd List.mem_cons_self]
      by_cases hlt : j < xs.length
      · rw [List.getElem?_append_left hlt] at hj
        exact hR j v _ _ (hid_same fun b o _ e => s4 b o e) (hr j v hj)
      · have hj' : j = xs.length := by
          have q := (List.getElem?_eq_some_iff.mp hj).1
          simp at q
          omega
        subst hj'
        rw [List.getElem?_append_right (Nat.le_refl _)] at hj
        simp at hj
        subst hj
        rw [hl]
        exact r4
  · rintro H ⟨sm, xs, hx, hl, hr⟩
    exact hd H xs sm hx hl hr
/-- items that are data, one by one -/
theorem dpAll_of {K : PySem.W.Frag} {H : Hp} : ∀ {xs : List V} {ds : List PyData}, xs.length = ds.length → (∀ (j : Nat) v d, xs[j]? = some v → ds[j]? = some d → Dp K H v d) → DpAll K H xs ds
  | [], [], _, _ => .nil
  | x :: xs, d :: ds, hl, h => .cons (h 0 x d rfl rfl) (dpAll_of (by simpa using hl) fun j v e h1 h2 => h (j + 1) v e (by simpa using h1) (by simpa using h2))
  | [], _ :: _, hl, _ => by simp at hl
  | _ :: _, [], hl, _ => by simp at hl
/-! ### what a machine is, as data -/
def S (l : List Nat) : Str := ⟨l.toArray⟩
def turnD (t : Nat × List Nat) : PyData := .tuple [.int t.1, .str (S t.2)]
def rowD (r : List (Nat × List Nat)) : PyData := .tuple (r.map turnD)
def rowsD (R : Rows) : PyData := .tuple (R.map rowD)
/-! ### what isinstance tells of data -/
def tyD : PyData → Option String
  | .none => some "NoneType"
  | .bool _ => some "bool"
  | .int _ => some "int"
  | .str _ => some "str"
  | .list _ => some "list"
  | .tuple _ => some "tuple"
  | _ => Option.none
theorem SqT.tyX {K : PySem.W.Frag} {H : Hp} {a : Addr} {xs : List V} (h : SqT K H a xs) : TyX K H (.ref a) (.type "tuple") := by
  rcases h with (h | ⟨o, h⟩) | ⟨o, its, n, h, hc, _⟩
  · exact .base (.tup h)
  · exact .fTuple h
  · exact .kTuple h hc
theorem SqL.tyX {K : PySem.W.Frag} {H : Hp} {a : Addr} {xs : List V} (h : SqL K H a xs) : TyX K H (.ref a) (.type "list") := by
  rcases h with (h | ⟨o, h⟩) | ⟨o, its, n, h, hc, _⟩
  · exact .base (.lst h)
  · exact .base (.frz h)
  · exact .kList h hc
theorem Dp.ty {K : PySem.W.Frag} {H : Hp} {v : V} {d : PyData} (h : Dp K H v d) : ∃ t, tyD d = some t ∧ TyX K H v (.type t) := by
  cases h with
  | non => exact ⟨_, rfl, .base .non⟩
  | bl b => exact ⟨_, rfl, .base (.bl b)⟩
  | int i => exact ⟨_, rfl, .base (.int i)⟩
  | str x => exact ⟨_, rfl, .base (.str x)⟩
  | lst hs ha => exact ⟨_, rfl, SqL.tyX hs⟩
  | tup hs ha => exact ⟨_, rfl, SqT.tyX hs⟩
/-- whether data are of a built-in class -/
def isB (c : String) (d : PyData) : Bool := match d, c with
  | .none, _ => false
  | .bool _, c => c == "bool" || c == "int"
  | .int _, c => c == "int"
  | .str _, c => c == "str"
  | .list _, c => c == "list"
  | .tuple _, c => c == "tuple"
  | _, _ => false
theorem Dp.isB {K : PySem.W.Frag} {H : Hp} {v : V} {d : PyData} (h : Dp K H v d) {c : String} (hc : c ∈ ["int", "bool", "str", "list", "tuple"]) : ∃ t, TyX K H v t ∧ PySem.W.kitOne K t (.type c) = some (isB c d) := by
  simp only [List.mem_cons, List.mem_nil_iff, or_false] at hc
  cases h with
  | non => exact ⟨_, .base .non, by rcases hc with rfl | rfl | rfl | rfl | rfl <;> exact kit_ty (by first | (show kitB _ _ = some true; decide +kernel) | (show kitB _ _ = some false; decide +kernel))⟩
  | bl b => exact ⟨_, .base (.bl b), by rcases hc with rfl | rfl | rfl | rfl | rfl <;> exact kit_ty (by first | (show kitB _ _ = some true; decide +kernel) | (show kitB _ _ = some false; decide +kernel))⟩
  | int i => exact ⟨_, .base (.int i), by rcases hc with rfl | rfl | rfl | rfl | rfl <;> exact kit_ty (by first | (show kitB _ _ = some true; decide +kernel) | (show kitB _ _ = some false; decide +kernel))⟩
  | str x => exact ⟨_, .base (.str x), by rcases hc with rfl | rfl | rfl | rfl | rfl <;> exact kit_ty (by first | (show kitB _ _ = some true; decide +kernel) | (show kitB _ _ = some false; decide +kernel))⟩
  | lst hs ha => exact ⟨_, SqL.tyX hs, by rcases hc with rfl | rfl | rfl | rfl | rfl <;> exact kit_ty (by first | (show kitB _ _ = some true; decide +kernel) | (show kitB _ _ = some false; decide +kernel))⟩
  | tup hs ha => exact ⟨_, SqT.tyX hs, by rcases hc with rfl | rfl | rfl | rfl | rfl <;> exact kit_ty (by first | (show kitB _ _ = some true; decide +kernel) | (show kitB _ _ = some false; decide +kernel))⟩
/-- isinstance(x, c), answered of data -/
theorem isi_of {K : PySem.W.Frag} {H : Hp} {v : V} {d : PyData} (h : Dp K H v d) {c : String} (hc : c ∈ ["int", "bool", "str", "list", "tuple"]) {Q : V → Hp → Prop} (q : Q (.bl (FX.isB c d)) H) :
    rIsi K [v, .ty c] H Q := by
  obtain ⟨t, h1, h2⟩ := Dp.isB h hc
  exact ⟨v, .ty c, t, _, _, rfl, .ty c, h1, h2, q⟩
/-! ### the letters of the laws -/
def L8 : List Str := ["ab", "ba", "abc", "_ab", "Aa", "cab_", "Zz_", "cba", "ba_", "aA", "_bac", "_zZ"]
def zs (z : Str) : List Nat := z.cps.toList
def signs : Str := "ABCDEFGHIJKLMNOPQRSTUVWXYZ_abcdefghijklmnopqrstuvwxyz"
theorem l8_len : ∀ z ∈ L8, 2 ≤ z.length ∧ z.length ≤ 4 := by decide +kernel
theorem l8_nodup : ∀ z ∈ L8, (zs z).Nodup := by decide +kernel
theorem l8_signs : ∀ z ∈ L8, ∀ c ∈ zs z, c ∈ zs signs := by decide +kernel
theorem l8_count : ∀ z ∈ L8, ∀ c ∈ zs z, Txt.count z (S [c]) = 1 := by decide +kernel
theorem l8_index : ∀ z ∈ L8, ∀ c ∈ zs z, Builtin.Str.occurrences z (S [c]) 0 z.length 1 = [ix (zs z) c] := by decide +kernel
theorem zs_length (z : Str) : (zs z).length = z.length := by simp [zs, Str.length]
theorem zs_S (l : List Nat) : zs (S l) = l := by simp [zs, S]
theorem S_zs (x : Str) : S (zs x) = x := by simp [zs, S]
theorem S_len (l : List Nat) : (S l).length = l.length := by simp [S, Str.length]
theorem S_inj {a b : List Nat} (h : S a = S b) : a = b := by rw [← zs_S a, ← zs_S b, h]
theorem join_flat : ∀ ls : List (List Nat), Txt.join (S []) (ls.map S) = S ls.flatten := by
  intro ls
  rw [TL.join_eq]
  have h : ∀ ls : List (List Nat), TL.tl (Str.join (S []) (ls.map S)) = ls.flatten := by
    intro ls
    rw [TL.tl_join]
    have e : ∀ l : List (List Nat), TL.joinL (TL.tl (S [])) ((l.map S).map TL.tl) = l.flatten := by
      intro l
      induction l with
      | nil => rfl
      | cons a r ih =>
        cases r with
        | nil => simp [TL.joinL, S, TL.tl]
        | cons b r =>
          simp only [List.map_cons] at ih ⊢
          rw [TL.joinL, ih]
          simp [S, TL.tl]
    exact e ls
  have h2 := h ls
  have e3 : ∀ x y : Str, TL.tl x = TL.tl y → x = y := fun x y e => by
    rw [← S_zs x, ← S_zs y]
    exact congrArg S e
  exact e3 _ _ (h2.trans (zs_S _).symm)
theorem str_at {x : Str} {i c : Nat} (h : x.cps[i]? = some c) : (zs x)[i]? = some c := by
  have := h
  simpa [zs] using this
theorem str_mem {x : Str} {i c : Nat} (h : x.cps[i]? = some c) : c ∈ zs x := List.mem_of_getElem? (str_at h)
theorem new_hid_at {H0 H : Hp} {ls : List Addr} {p : Addr} {o : HO} (h0 : H0 p = none) (hp : p ∉ ls) (h : H p = some o) : New H0 (hid ls H) p = some o := new_at h0 (by rw [hid_out hp]; exact h)
/-- a tuple made of a list's items -/
theorem tup_new {K : PySem.W.Frag} {H0 H : Hp} {ls : List Addr} {l : Addr} {xs : List V} {ds : List PyData} (sm : Same H0 H) (hl : H l = none) (h : DpAll K (New H0 (hid ls H)) xs ds) : Dp K (New H0 (upd H l (.tup xs))) (.ref l) (.tuple ds) :=
  Dp.tupNew (new_at (sm.free hl) upd_same) (DpAll.same (new_trans ((hid_sub ls H).trans (same_upd hl))) h)
theorem dp_new {K : PySem.W.Frag} {H0 H : Hp} {v : V} {d : PyData} (h : Dp K (New H0 H) v d) : Dp K H v d := Dp.same (new_sub _ _) h
/-- what is new since H2 is none of ls, all there then -/
theorem new_in {H0 H2 H3 : Hp} {ls : List Addr} (s : Same H0 H2) (h : ∀ l ∈ ls, H2 l ≠ none) : Same (New H2 H3) (New H0 (hid ls H3)) := fun b o e => by
  unfold New at e ⊢
  split at e
  · rename_i hb
    rw [if_pos (s.free hb), hid_out fun q => h b q hb]
    exact e
  · cases e
theorem int1 (i : Nat) : V.int ((i : Int) + 1) = V.int ((i + 1 : Nat) : Int) := by rw [show ((i : Int) + 1) = ((i + 1 : Nat) : Int) by omega]
theorem int01 (i : Nat) : V.int ((0 : Int) + (i : Int) + 1) = V.int ((i + 1 : Nat) : Int) := by rw [show ((0 : Int) + (i : Int) + 1) = ((i + 1 : Nat) : Int) by omega]
theorem int0 (i : Nat) : V.int ((0 : Int) + (i : Int)) = V.int ((i : Nat) : Int) := by rw [Int.zero_add]
theorem new_in2 {H0 H2 H3 : Hp} {D : Addr} (s : Same H0 H2) (h : H3 D = none) : Same (New H2 H3) (New H0 (hid [D] H3)) := fun b o e => by
  unfold New at e ⊢
  split at e
  · rename_i hb
    have hbD : b ≠ D := ne_of_none e h
    rw [if_pos (s.free hb), hid_out (by simp; exact hbD)]
    exact e
  · cases e
theorem S_nil : S [] = Str.ofString "" := rfl
theorem S_cons (d : Nat) : S [d] ≠ Str.ofString "" := fun h => by
  have h' := congrArg zs h
  rw [zs_S, ← S_nil, zs_S] at h'
  cases h'
theorem hid_less {ls ls' : List Addr} {H : Hp} (h : ∀ b ∈ ls', b ∈ ls) : Same (hid ls H) (hid ls' H) := fun b o e => by
  unfold hid at e ⊢
  split at e
  · cases e
  · rename_i hb
    rw [if_neg fun q => hb (h b q)]
    exact e
/-- one more object is made, and hidden -/
theorem hid_more {ls : List Addr} {H : Hp} {l : Addr} {o : HO} (h : H l = none) : Same (hid ls H) (hid (l :: ls) (upd H l o)) := fun b x e => by
  unfold hid at e ⊢
  split at e
  · cases e
  · rename_i hb
    have hbl := ne_of_none e h
    rw [if_neg (by simp; exact ⟨hbl, hb⟩), upd_ne hbl]
    exact e
theorem idxOf_first {α : Type} [BEq α] [LawfulBEq α] {q : α} : ∀ {l : List α} {m : Nat}, m < l.idxOf q → l[m]? ≠ some q
  | [], m, h => by simp
  | a :: l, m, h => by
    rw [List.idxOf_cons] at h
    cases e0 : (a == q) with
    | true =>
      rw [e0] at h
      simp at h
    | false =>
      have e' : (a == q) = false := e0
      have e : ¬ a = q := by simpa using e0
      rw [e'] at h
      simp at h
      cases m with
      | zero => simp [e]
      | succ m =>
        simp only [List.getElem?_cons_succ]
        exact idxOf_first (by omega)
theorem idxOf_at {α : Type} [BEq α] [LawfulBEq α] {q : α} {l : List α} (h : q ∈ l) : l[l.idxOf q]? = some q := by
  have h1 := List.idxOf_lt_length_of_mem h
  rw [List.getElem?_eq_getElem h1]
  simp
/-! ### pairs of numbers, as data -/
def dP (p : Nat × Nat) : PyData := .tuple [.int p.1, .int p.2]
theorem dP_eqv (p q : Nat × Nat) : PyData.eqv (dP p) (dP q) = decide (p = q) := by
  obtain ⟨a, b⟩ := p
  obtain ⟨c, d⟩ := q
  have e : PyData.eqv (dP (a, b)) (dP (c, d)) = (((a : Int) == (c : Int)) && (((b : Int) == (d : Int)) && true)) := by simp only [dP, PyData.eqv, PyData.eqvAll]
  rw [e]
  by_cases h : (a, b) = (c, d)
  · cases h
    simp
  · rw [decide_eq_false h]
    have h' : ¬ (a = c ∧ b = d) := fun ⟨h1, h2⟩ => h (by rw [h1, h2])
    by_cases h1 : a = c
    · have h2 : ((b : Int) == (d : Int)) = false := beq_eq_false_iff_ne.mpr (fun e => h' ⟨h1, by omega⟩)
      rw [h2]
      simp
    · have h2 : ((a : Int) == (c : Int)) = false := beq_eq_false_iff_ne.mpr (by omega)
      rw [h2]
      rfl
theorem dP_lay (p : Nat × Nat) : (dP p).canLay0 = true := by simp [dP, PyData.canLay0, PyData.canLayAll0]
theorem dP_depth (p : Nat × Nat) : (dP p).depth ≤ 1 := by simp [dP, PyData.depth, PyData.depthAll]
theorem shaped_of {d : PyData} (h1 : d.canLay0 = true) (h2 : d.depth ≤ 64) : SeqAt.shaped d = true := by
  show (d.canLay0 && decide (d.depth ≤ 64)) = true
  rw [h1, decide_eq_true h2]
  rfl
theorem dP_shaped (p : Nat × Nat) : SeqAt.shaped (dP p) = true := shaped_of (dP_lay p) (Nat.le_trans (dP_depth p) (by decide))
theorem layAll_of {ds : List PyData} (h : ∀ d ∈ ds, d.canLay0 = true) : PyData.canLayAll0 ds = true := by
  induction ds with
  | nil => simp [PyData.canLayAll0]
  | cons d ds ih => simp [PyData.canLayAll0, h d List.mem_cons_self, ih fun e he => h e (List.mem_cons_of_mem _ he)]
theorem depthAll_of {ds : List PyData} {n : Nat} (h : ∀ d ∈ ds, d.depth ≤ n) : PyData.depthAll ds ≤ n := by
  induction ds with
  | nil => simp [PyData.depthAll]
  | cons d ds ih =>
    have h1 := h d List.mem_cons_self
    have h2 := ih fun e he => h e (List.mem_cons_of_mem _ he)
    simp only [PyData.depthAll]
    omega
theorem dPs_shaped (ps : List (Nat × Nat)) : SeqAt.shaped (.list (ps.map dP)) = true := by
  refine shaped_of ?_ ?_
  · simp only [PyData.canLay0]
    exact layAll_of fun d hd => by obtain ⟨p, _, rfl⟩ := List.mem_map.mp hd; exact dP_lay p
  · have h1 := depthAll_of (ds := ps.map dP) (n := 1) fun d hd => by obtain ⟨p, _, rfl⟩ := List.mem_map.mp hd; exact dP_depth p
    simp only [PyData.depth]
    omega
theorem dPs_any (ps : List (Nat × Nat)) (q : Nat × Nat) : (ps.map dP).any (fun z => PyData.eqv z (dP q)) = decide (q ∈ ps) := by
  rw [List.any_map]
  by_cases h : q ∈ ps
  · rw [decide_eq_true h, List.any_eq_true]
    exact ⟨q, h, by show PyData.eqv _ _ = true; rw [dP_eqv]; simp⟩
  · rw [decide_eq_false h, List.any_eq_false]
    intro x hx
    show ¬ PyData.eqv _ _ = true
    rw [dP_eqv]
    simp
    exact fun e => h (e ▸ hx)
/-- l.index(pair) -/
theorem index_facts {ps : List (Nat × Nat)} {q : Nat × Nat} (hq : q ∈ ps) : (ps.map dP)[ps.idxOf q]? = some (dP q) ∧ PyData.eqv (dP q) (dP q) = true ∧
    ∀ (m : Nat) (z' : PyData), m < ps.idxOf q → (ps.map dP)[m]? = some z' → PyData.eqv z' (dP q) = false := by
  refine ⟨?_, ?_, ?_⟩
  · rw [List.getElem?_map, idxOf_at hq]
    rfl
  · rw [dP_eqv]
    simp
  · intro m z' hm hz
    rw [List.getElem?_map] at hz
    cases e : ps[m]? with
    | none =>
      rw [e] at hz
      cases hz
    | some p =>
      rw [e] at hz
      cases hz
      rw [dP_eqv]
      refine decide_eq_false fun h => ?_
      exact idxOf_first hm (by rw [e, h])
end FX
set_option Elab.async false
set_option linter.all false
set_option maxRecDepth 100000
/-! own rules: <, <=, > of lists of whole numbers -/
namespace FX
open PySem PySem.Spec PyProof.Rows L2
/-- the first place at which two lists differ decides; where none does, fin -/
def lexB (c : Int → Int → Bool) (fin : Bool) : List Int → List Int → Bool
  | x :: xs, y :: ys => if x = y then lexB c fin xs ys else c x y
  | _, _ => fin
theorem first_lex (c : Int → Int → Bool) (fin : Bool) : ∀ (xs ys : List Int) (i : Nat) (e r : Nat → Bool), (∀ j, e (i + j) = decide (xs.getD j 0 = ys.getD j 0)) → (∀ j, r (i + j) = c (xs.getD j 0) (ys.getD j 0)) →
    SeqAt.firstLt e r fin (List.range' i (min xs.length ys.length)) = lexB c fin xs ys
  | [], ys, i, e, r, _, _ => by simp [lexB, SeqAt.firstLt]
  | x :: xs, [], i, e, r, _, _ => by simp [lexB, SeqAt.firstLt]
  | x :: xs, y :: ys, i, e, r, he, hr => by
    have ih := first_lex c fin xs ys (i + 1) e r (fun j => by have := he (j + 1); rw [show i + 1 + j = i + (j + 1) by omega, this]; simp) (fun j => by have := hr (j + 1); rw [show i + 1 + j = i + (j + 1) by omega, this]; simp)
    rw [show min (x :: xs).length (y :: ys).length = min xs.length ys.length + 1 by simp only [List.length_cons]; omega, List.range'_succ]
    have e0 := he 0
    have r0 := hr 0
    simp at e0 r0
    show (if e i = true then _ else r i) = (if x = y then _ else _)
    by_cases h : x = y
    · rw [if_pos h, if_pos (by rw [e0]; exact decide_eq_true h)]; exact ih
    · rw [if_neg h, if_neg (by rw [e0]; simp [h])]; exact r0
/-- x op y of two lists of whole numbers, fin told by the lengths -/
def rLexL (K : PySem.W.Frag) (c : Int → Int → Bool) (z : Nat → Nat → Bool) : R2 := fun x y H Q => ∃ (a b : Addr) (ns ms : List Int), x = .ref a ∧ y = .ref b ∧ SqL K H a (ns.map V.int) ∧ SqL K H b (ms.map V.int) ∧ Q (.bl (lexB c (z ns.length ms.length) ns ms)) H
section
variable {X : Cx}
theorem op_lexL {op : CmpOp} {c : Int → Int → Bool} {z : Nat → Nat → Bool} (hu : X.A.units < cLine)
    (hL : ∀ {s : Shared} {l b : Addr} {items items2 : Array Value} {e r : Nat → Bool}, s.heap.IsList l items → s.heap.IsList b items2 →
      (∀ j (h1 : j < items.size) (h2 : j < items2.size), SeqAt.EqAt X.A.in1 s items[j] items2[j] (e j)) → (∀ j (h1 : j < items.size) (h2 : j < items2.size), e j = false → SeqAt.RcOp op X.A.in1 s items[j] items2[j] (r j)) →
      SeqAt.RcOp op X.A s (.ref l) (.ref b) (SeqAt.firstLt e r (z items.size items2.size) (List.range (min items.size items2.size))))
    (hI : ∀ {s : Shared} (a b : Int) (t u : Tok), SeqAt.RcOp op X.A.in1 s (.int a t) (.int b u) (c a b))
    (hop : ∀ v u, compareOp op v u = richCompare op v u) : OpR X (compareOp op) (rLexL X.K c z) := by
  intro pins s σ H x y v u Q I rx ry h
  obtain ⟨a, b, ns, ms, rfl, rfl, ha, hb, q⟩ := h
  cases rx
  cases ry
  obtain ⟨its, r1, p1, _⟩ := I.list ha
  obtain ⟨its2, r2, p2, _⟩ := I.list hb
  have i1 : IntsAre its ns := Vals.ints r1
  have i2 : IntsAre its2 ms := Vals.ints r2
  have e1 : its.toArray.size = ns.length := by rw [List.size_toArray]; exact i1.length
  have e2 : its2.toArray.size = ms.length := by rw [List.size_toArray]; exact i2.length
  have at1 : ∀ j (h1 : j < its.toArray.size), ∃ t, its.toArray[j] = .int (ns.getD j 0) t := fun j h1 => PyProof.Rows.IntsAre.int_at i1 _ _ (by simp at h1; simp [h1])
  have at2 : ∀ j (h1 : j < its2.toArray.size), ∃ t, its2.toArray[j] = .int (ms.getD j 0) t := fun j h1 => PyProof.Rows.IntsAre.int_at i2 _ _ (by simp at h1; simp [h1])
  have R := hL (s := s) (e := fun j => decide (ns.getD j 0 = ms.getD j 0)) (r := fun j => c (ns.getD j 0) (ms.getD j 0)) p1.isList p2.isList (fun j h1 h2 => by
    obtain ⟨t, et⟩ := at1 j h1
    obtain ⟨t', et'⟩ := at2 j h2
    rw [et, et']
    have z : (ns.getD j 0 == ms.getD j 0) = decide (ns.getD j 0 = ms.getD j 0) := by
      by_cases q : ns.getD j 0 = ms.getD j 0
      · rw [decide_eq_true q]; exact beq_iff_eq.mpr q
      · rw [decide_eq_false q]; exact beq_eq_false_iff_ne.mpr q
    rw [← z]
    exact SeqAt.EqAt.int_int _ _ _ _) (fun j h1 h2 _ => by
    obtain ⟨t, et⟩ := at1 j h1
    obtain ⟨t', et'⟩ := at2 j h2
    rw [et, et']
    exact hI _ _ _ _)
  rw [e1, e2, List.range_eq_range', first_lex c _ ns ms 0 _ _ (fun j => by rw [Nat.zero_add]) (fun j => by rw [Nat.zero_add])] at R
  rw [hop]
  exact R X.prog X.w X.xe (EP X pins σ Q) ⟨.bl _, H, I, rfl, q⟩
theorem op_leL (hu : X.A.units < cLine) : OpR X (compareOp .LtE) (rLexL X.K (fun a b => decide (a ≤ b)) (fun a b => decide (a ≤ b))) :=
  op_lexL hu (fun h1 h2 h3 h4 => SeqAt.RcOp.lists_le h1 h2 hu h3 h4) (fun _ _ _ _ _ _ _ _ h => PyProof.Rows.le_int h) (fun _ _ => rfl)
theorem op_ltL (hu : X.A.units < cLine) : OpR X (compareOp .Lt) (rLexL X.K (fun a b => decide (a < b)) (fun a b => decide (a < b))) :=
  op_lexL hu (fun h1 h2 h3 h4 => SeqAt.RcLt.lists h1 h2 hu h3 h4) (fun _ _ _ _ _ _ _ _ h => PyProof.Rows.lt_int h) (fun _ _ => rfl)
theorem op_gtL (hu : X.A.units < cLine) : OpR X (compareOp .Gt) (rLexL X.K (fun a b => decide (b < a)) (fun a b => decide (b < a))) :=
  op_lexL hu (fun h1 h2 h3 h4 => SeqAt.RcOp.lists_gt h1 h2 hu h3 h4) (fun _ _ _ _ _ _ _ _ h => PyProof.Rows.gt_int h) (fun _ _ => rfl)
end
end FX
set_option linter.all false
/-! the machine that maps -/
namespace FX
def mapR (outs : List (List Nat)) : Rows := [outs.map fun o => (0, o)]
theorem map_ok {zs : List Nat} {outs : List (List Nat)} (h1 : outs.length = zs.length) (h2 : ∀ o ∈ outs, o.length ≤ 1 ∧ ∀ c ∈ o, c ∈ zs) : MachOk zs (mapR outs) := by
  have hall : ∀ row ∈ mapR outs, row.length = zs.length ∧ ∀ t ∈ row, t.1 < 1 ∧ t.2.length ≤ 1 ∧ ∀ c ∈ t.2, c ∈ zs := by
    intro row h
    simp [mapR] at h
    subst h
    refine ⟨by simp [h1], fun t ht => ?_⟩
    obtain ⟨o, ho, rfl⟩ := List.mem_map.mp ht
    exact ⟨Nat.zero_lt_one, (h2 o ho).1, (h2 o ho).2⟩
  exact ⟨by simp [mapR], fun row h => (hall row h).1, fun row h t ht => ((hall row h).2 t ht).1, fun row h t ht => ((hall row h).2 t ht).2.1, fun row h t ht => ((hall row h).2 t ht).2.2⟩
theorem map_stp {zs : List Nat} {outs : List (List Nat)} (h1 : outs.length = zs.length) {c : Nat} (hc : c ∈ zs) : stp zs (mapR outs) 0 c = (0, outs.getD (ix zs c) []) := by
  have hi : ix zs c < outs.length := by rw [h1]; exact List.idxOf_lt_length_of_mem hc
  simp [stp, mapR, List.getD, List.getElem?_map, List.getElem?_eq_getElem hi]
theorem map_made {zs : List Nat} {outs : List (List Nat)} (h1 : outs.length = zs.length) : ∀ v : List Nat, (∀ c ∈ v, c ∈ zs) → runM zs (mapR outs) 0 v = (0, (v.map fun c => outs.getD (ix zs c) []).flatten)
  | [], _ => rfl
  | c :: r, h => by
    have ih := map_made h1 r fun d hd => h d (List.mem_cons_of_mem _ hd)
    rw [runM, map_stp h1 (h c List.mem_cons_self), ih]
    rfl
theorem copy_stp {zs : List Nat} {R : Rows} {s n c : Nat} (hr : R[s]? = some (copyRow zs n)) (hc : c ∈ zs) : stp zs R s c = (n, [c]) := by
  have hi : ix zs c < zs.length := List.idxOf_lt_length_of_mem hc
  have e : zs[ix zs c] = c := List.getElem_idxOf hi
  simp [stp, List.getD, hr, copyRow, List.getElem?_map, List.getElem?_eq_getElem hi, e]
theorem copy_run {zs : List Nat} {R : Rows} {s : Nat} (hr : R[s]? = some (copyRow zs s)) : ∀ v : List Nat, (∀ c ∈ v, c ∈ zs) → runM zs R s v = (s, v)
  | [], _ => rfl
  | c :: r, h => by
    rw [runM, copy_stp hr (h c List.mem_cons_self), copy_run hr r fun d hd => h d (List.mem_cons_of_mem _ hd)]
    rfl
theorem plain_run (zs : List Nat) (v : List Nat) (h : ∀ c ∈ v, c ∈ zs) : runM zs (plainR zs) 0 v = (0, v) := copy_run rfl v h
theorem rep_stp {zs : List Nat} {R : Rows} {s n c : Nat} (hr : R[s]? = some (List.replicate zs.length (n, []))) (hc : c ∈ zs) : stp zs R s c = (n, []) := by
  have hi : ix zs c < zs.length := List.idxOf_lt_length_of_mem hc
  simp [stp, List.getD, hr, List.getElem?_replicate, hi]
theorem rep_run {zs : List Nat} {R : Rows} {s : Nat} (hr : R[s]? = some (List.replicate zs.length (s, []))) : ∀ v : List Nat, (∀ c ∈ v, c ∈ zs) → runM zs R s v = (s, [])
  | [], _ => rfl
  | c :: r, h => by
    rw [runM, rep_stp hr (h c List.mem_cons_self), rep_run hr r fun d hd => h d (List.mem_cons_of_mem _ hd)]
    rfl
theorem cut_row {zs : List Nat} {n s : Nat} (h : s < n) : (cutR zs n)[s]? = some (copyRow zs (s + 1)) := by
  rw [cutR, List.getElem?_append_left (by simp; exact h), List.getElem?_map, List.getElem?_range h]
  rfl
theorem cut_last (zs : List Nat) (n : Nat) : (cutR zs n)[n]? = some (List.replicate zs.length (n, [])) := by
  rw [cutR, List.getElem?_append_right (by simp)]
  simp
theorem cut_run (zs : List Nat) (n : Nat) : ∀ (v : List Nat) (s : Nat), s ≤ n → (∀ c ∈ v, c ∈ zs) → runM zs (cutR zs n) s v = (min n (s + v.length), v.take (n - s))
  | [], s, hs, _ => by simp [runM]; omega
  | c :: r, s, hs, h => by
    by_cases e : s = n
    · subst e
      rw [rep_run (cut_last zs s) _ h]
      simp
    · have hlt : s < n := by omega
      have ih := cut_run zs n r (s + 1) hlt fun d hd => h d (List.mem_cons_of_mem _ hd)
      rw [runM, copy_stp (cut_row hlt) (h c List.mem_cons_self), ih]
      rw [show n - s = (n - (s + 1)) + 1 by omega, List.take_succ_cons]
      refine Prod.ext ?_ rfl
      show min n (s + 1 + r.length) = min n (s + (r.length + 1))
      congr 1
      omega
/-- the value without the letters of some at its head -/
def dropS (m : List Nat) : List Nat → List Nat
  | [] => []
  | c :: r => if c ∈ m then dropS m r else c :: r
theorem strip_run (zs m : List Nat) : ∀ v : List Nat, (∀ c ∈ v, c ∈ zs) → (runM zs (stripR zs m) 0 v).2 = dropS m v
  | [], _ => rfl
  | c :: r, h => by
    have hc := h c List.mem_cons_self
    have hr := fun d hd => h d (List.mem_cons_of_mem c hd)
    have hi : ix zs c < zs.length := List.idxOf_lt_length_of_mem hc
    have e : zs[ix zs c] = c := List.getElem_idxOf hi
    have hs : stp zs (stripR zs m) 0 c = if c ∈ m then (0, []) else (1, [c]) := by
      simp [stp, stripR, List.getD, List.getElem?_map, List.getElem?_eq_getElem hi, e]
    rw [runM, hs, dropS]
    by_cases hm : c ∈ m
    · rw [if_pos hm, if_pos hm]
      exact strip_run zs m r hr
    · rw [if_neg hm, if_neg hm]
      show [c] ++ (runM zs (stripR zs m) 1 r).2 = _
      rw [copy_run (show (stripR zs m)[1]? = some (copyRow zs 1) from rfl) r hr]
      rfl
/-- the value without what follows its like, of the letters of some -/
def foldS (m : List Nat) : List Nat → List Nat → List Nat
  | _, [] => []
  | l, c :: r => (if [c] = l ∧ c ∈ m then [] else [c]) ++ foldS m [c] r
theorem turns_stp {zs : List Nat} {R : Rows} {s c : Nat} {sl : List Nat} (hr : R[s]? = some (turnsR zs sl)) (hc : c ∈ zs) : stp zs R s c = (ix zs c + 1, if [c] = sl then [] else [c]) := by
  have hi : ix zs c < zs.length := List.idxOf_lt_length_of_mem hc
  have e : zs[ix zs c] = c := List.getElem_idxOf hi
  simp [stp, List.getD, hr, turnsR, List.getElem?_map, List.getElem?_range hi, List.getElem?_eq_getElem hi, e]
/-- the state after a last letter -/
def lastSt (zs l : List Nat) : Nat := match l with | [] => 0 | c :: _ => ix zs c + 1
theorem sq_row {zs m : List Nat} {l : List Nat} (hl : l = [] ∨ ∃ c ∈ zs, l = [c]) : (squeezeR zs m)[lastSt zs l]? = some (turnsR zs (l.filter (· ∈ m))) := by
  rcases hl with rfl | ⟨c, hc, rfl⟩
  · rfl
  · have hi : ix zs c < zs.length := List.idxOf_lt_length_of_mem hc
    have e : zs[ix zs c] = c := List.getElem_idxOf hi
    show (squeezeR zs m)[ix zs c + 1]? = _
    rw [squeezeR, List.getElem?_cons_succ, List.getElem?_map, List.getElem?_eq_getElem hi, e]
    by_cases hm : c ∈ m <;> simp [hm]
theorem sq_run (zs m : List Nat) : ∀ (v l : List Nat), (l = [] ∨ ∃ c ∈ zs, l = [c]) → (∀ c ∈ v, c ∈ zs) →
    runM zs (squeezeR zs m) (lastSt zs l) v = (match v.getLast? with | none => lastSt zs l | some c => ix zs c + 1, foldS m l v)
  | [], l, _, _ => rfl
  | c :: r, l, hl, h => by
    have hc := h c List.mem_cons_self
    have ih := sq_run zs m r [c] (.inr ⟨c, hc, rfl⟩) fun d hd => h d (List.mem_cons_of_mem _ hd)
    rw [runM, turns_stp (sq_row hl) hc]
    have e2 : (if [c] = l.filter (· ∈ m) then [] else [c]) = (if [c] = l ∧ c ∈ m then [] else [c] : List Nat) := by
      rcases hl with rfl | ⟨d, _, rfl⟩
      · simp
      · by_cases hm : d ∈ m
        · simp [hm]
          by_cases e : c = d
          · subst e; simp [hm]
          · simp [e]
        · simp [hm]
          by_cases e : c = d
          · subst e; simp [hm]
          · simp [e]
    refine Prod.ext ?_ ?_
    · show (runM zs (squeezeR zs m) (ix zs c + 1) r).1 = _
      have := congrArg Prod.fst ih
      refine Eq.trans this ?_
      cases r with
      | nil => rfl
      | cons d r' =>
        rw [List.getLast?_cons_cons]
        cases hq : (d :: r').getLast? with
        | none => exact absurd hq (by simp)
        | some x => rfl
    · show _ ++ (runM zs (squeezeR zs m) (ix zs c + 1) r).2 = foldS m l (c :: r)
      rw [show (runM zs (squeezeR zs m) (ix zs c + 1) r).2 = foldS m [c] r from congrArg Prod.snd ih, foldS]
      dsimp only
      rw [e2]
end FX
set_option Elab.async false
set_option linter.all false
set_option maxRecDepth 100000
set_option maxHeartbeats 8000000
/-! own rules: a def of two parameters that keeps captured cells (super()); super().__init__(..) of an own exception over ValueError -/
namespace FX
open PySem PySem.Spec PyProof.Rows L2
abbrev cloEnv (qual : Str) (scope : Scope) (L f : Addr) (cd : Value) (cl : List (Str × Addr)) : Env := PySem.W.envX qual scope L f cd cl
def cxClo (CX : CXT) (P : Program) (w : World) (K : PySem.W.Frag) (mg : Str → Option Value) (base : Heap) (N : List Str) (qual : Str) (scope : Scope) (f : Addr) (cd : Value) (cl : List (Str × Addr)) (A : Around) (outer : List Env) (s : Shared) (H : Hp) (E : XK) : Cx where
  prog := P
  w := w
  K := K
  mg := mg
  base := base
  A := A.deeper (cloEnv qual scope s.heap.objs.size f cd cl)
  N := N
  s_0 := s
  H_0 := H
  env := cloEnv qual scope s.heap.objs.size f cd cl
  outer := outer
  stack := cloEnv qual scope s.heap.objs.size f cd cl :: outer
  ex := []
  fn := fun _ => false
  calm := true
  pn := []
  xe := fun e s' => wpAny (model P w) (A.deeper (cloEnv qual scope s.heap.objs.size f cd cl)) (leaving (cloEnv qual scope s.heap.objs.size f cd cl) e) (fun _ s2 => CX outer H s E e s2) (fun e2 s2 => CX outer H s E e2 s2) s'
/-- what is asked of the captured cells -/
structure CloOk (base : Heap) (scope : Scope) (cl : List (Str × Addr)) : Prop where
  kind : scope.kind = .function
  one : ∀ y z c, cl.lookup y = some c → cl.lookup z = some c → y = z
  has : ∀ y, scope.names.lookup y = some .cell ∨ scope.names.lookup y = some .free → ∃ c, cl.lookup y = some c
  at_ : ∀ y c, cl.lookup y = some c → ∃ v, base.IsCell c v
theorem inv_clo {CX : CXT} {P : Program} {w : World} {K : PySem.W.Frag} {mg : Str → Option Value} {base : Heap} {x1 x2 : Str} {qual : Str} {scope : Scope} {f : Addr} {cd : Value} {cl : List (Str × Addr)} {A : Around} {outer : List Env} {s : Shared} {H : Hp} {E : XK} {u1 u2 : Value} {v1 v2 : V} {h1 : Heap} {tk : Nat}
    (C : CloOk base scope cl) (hd : A.handled = none) (e0 : Env0 P w K mg base A outer s H) (r1 : RelV v1 u1) (r2 : RelV v2 u2) (hne : (x1 == x2) = false) (l1 : scope.names.lookup x1 = some .local) (l2 : scope.names.lookup x2 = some .local)
    (ns : h1.Ns s.heap.objs.size fun x => ([(x1, u1), (x2, u2)] : List (Str × Value)).reverse.lookup x) (kp : ∀ b o, s.heap.get? b = some o → h1.get? b = some o) :
    Inv (cxClo CX P w K mg base [x1, x2] qual scope f cd cl A outer s H E) [] [some v1, some v2] H { s with heap := h1, toks := tk } := by
  have noA : ∀ b : Addr, b ∉ (cxClo CX P w K mg base [x1, x2] qual scope f cd cl A outer s H E).ex := fun b z => absurd (show b ∈ ([] : List Addr) from z) (by simp)
  have inB : ∀ y c, cl.lookup y = some c → (∃ v, h1.IsCell c v) ∧ H c = none := fun y c e => by
    obtain ⟨v, o, ho, hv⟩ := C.at_ y c e
    obtain ⟨k1, k2⟩ := e0.bs c o ho
    exact ⟨⟨v, o, kp _ _ k1, hv⟩, k2⟩
  refine ⟨⟨e0.mod, C.kind, rfl, rfl, Nat.le_refl _, C.one, C.has, fun y c z _ => Bool.noConfusion (show false = true from z), fun _ => hd, Around.frames_deeper e0.frames, .inr ⟨rfl, rfl⟩, fun b z => absurd z (noA b), e0.bs, e0.bsz, fun b _ _ => noA b,
      fun b z => absurd z (noA b), e0.funs, e0.frf⟩, rfl, e0.bare, Un.kept kp, ⟨_, ns, fun i y v e1 e2 e3 => ?_⟩, fun y c e => (inB y c e).1, e0.hok.fresh (Nat.le_refl _), fun y c e => (inB y c e).2,
    fun q hq => absurd (show q ∈ ([] : List (Addr × Obj)) ++ [] from hq) (by simp), e0.hok.kept kp, rfl⟩
  have e1 : ([x1, x2] : List Str)[i]? = some y := e1
  match i, e1, e2 with
  | 0, e1, e2 =>
    obtain rfl : x1 = y := by simpa using e1
    obtain rfl : v1 = v := by simpa using e2
    refine ⟨u1, r1, .inl ⟨l1, ?_⟩⟩
    show List.lookup x1 [(x2, u2), (x1, u1)] = _
    rw [List.lookup_cons, hne, List.lookup_cons_self]
  | 1, e1, e2 =>
    obtain rfl : x2 = y := by simpa using e1
    obtain rfl : v2 = v := by simpa using e2
    refine ⟨u2, r2, .inl ⟨l2, ?_⟩⟩
    show List.lookup x2 [(x2, u2), (x1, u1)] = _
    rw [List.lookup_cons_self]
  | n + 2, e1, _ => exact absurd e1 (by simp)
/-- {x}: None or a whole number -/
def tFmtN (te : TE) : TE := fun σ H Q => te σ H fun x H1 => (x = .non ∧ Q (.str "None") H1) ∨ ∃ i : Int, x = .int i ∧ i.natAbs.log2 < 1920 ∧ Q (.str (toString i)) H1
theorem pe_fmtN {X : Cx} {e : Expr} {te : TE} {pos : Pos} (he : PE X e te) : PE X (.FormattedValue e (-1) none pos) (tFmtN te) := by
  refine ⟨fun pins s σ H Q I h => ?_⟩
  refine wpAny_FormattedValue_plain (thn (he.run pins s σ H _ I h) fun v s1 hv => ?_)
  obtain ⟨x, H1, I1, rx, q⟩ := hv
  rcases q with ⟨rfl, q⟩ | ⟨i, rfl, hz, q⟩
  · obtain rfl : v = Value.none := rx
    exact wpAny_formatField_none ⟨.str "None", H1, I1.tok _, ⟨_, rfl⟩, q⟩
  · obtain ⟨t, rfl⟩ := rx
    exact wpAny_formatField_int hz ⟨.str (toString i), H1, I1.tok _, ⟨_, rfl⟩, q⟩
/-- an object of no heap word is kept in mind -/
theorem Inv_pin {X : Cx} {σ : L2.St} {H : Hp} {s : Shared} (I : L2.Inv X [] σ H s) {u : Addr} {o : Obj} (hu : s.heap.get? u = some o) (h0 : H u = none) (h1 : u ≠ X.env.locals) (h2 : u ∉ X.fs) (h3 : ∀ v, o.data ≠ .cell v) : L2.Inv X [(u, o)] σ H s :=
  ⟨I.ok, I.os, I.bare, I.base, I.loc, I.cell, I.free, I.freeC, fun p hp => by
    rcases List.mem_append.mp hp with m | m
    · exact I.pin p (List.mem_append_left _ m)
    · obtain rfl := List.mem_singleton.mp m
      exact ⟨hu, h0, h1, h2, h3⟩, I.hok, I.len⟩
theorem Inv_unpin {X : Cx} {pins : List (Addr × Obj)} {σ : L2.St} {H : Hp} {s : Shared} (I : L2.Inv X pins σ H s) : L2.Inv X [] σ H s :=
  ⟨I.ok, I.os, I.bare, I.base, I.loc, I.cell, I.free, I.freeC, fun p hp => I.pin p (by simp at hp ⊢; exact .inl hp), I.hok, I.len⟩
section
open PySem.W
variable {prog : Program} {w : World} {A : Around} {E : Value → Shared → Prop} {hh : Heap} {g : Array GenState} {d : Drawn} {tt : Nat} {os : OsState}
variable {nm q : Str} {C N : Addr} {bs bm : List Value} {hdct : Bool} {sn : List Str} {sub : List Value} {ab : Bool} {col : Option Bool} {dd : Option Addr} {k0 k1 k2 k3 k5 : Option Value}
/-- ValueError.__init__, bound to an object that is being made, called -/
theorem call_mwV {u e t0 : Addr} {more : List Value} {Q : Value → Shared → Prop} (kC : hh.get? C = some (excClassObj nm q C N bs bm hdct sn sub ab col dd k0 k1 k2 k3 k5 "ValueError.__new__")) (ke : hh.get? e = some (HandSPX.excO C t0))
    (ku : hh.get? u = some (kxs_mw "ValueError.__init__" e)) (few : more.length ≤ sizeLine) (go : ∀ h2 t1, (∀ b o, b ≠ e → hh.get? b = some o → h2.get? b = some o) → h2.get? e = some (HandSPX.excO C t1) → Q .none ⟨h2, g, d, tt, os⟩) :
    wpAny (model prog w) A (call (.ref u) more) Q E ⟨hh, g, d, tt, os⟩ := by
  refine wpAny_call (codeAny_of_tree (?_ : wpAny _ A.in1 (callAny (.ref u) ⟨more, []⟩) _ _ _))
  simp only [callAny]
  refine wpAny_bind (wpAny_load ku ?_)
  have e1 : (Value.type "method-wrapper" == Value.type "method" || Value.type "method-wrapper" == Value.type "builtin_function_or_method" || Value.type "method-wrapper" == Value.type "method-wrapper") = true := by decide
  simp only [kxs_mw, e1, if_true]
  refine KFB.if_so (by decide) (wpAny_bind (ESX.check_bound F.excBase_ValueError kC ke rfl (wpAny_bind (wpAny_pure (wpAny_pure ⟨Code.quiet_builtin _ (by decide +kernel), codeAny_builtin F.excBase_ValueError.initEntry ?_⟩)))))
  rw [Around.under_plainId F.excBase_ValueError.init.plain _]
  wp_walk
  refine go _ hh.objs.size (fun b o hb ho => ?_) ?_
  · exact (Heap.get?_update_other _ _ (Ne.symm hb)).trans (Heap.get?_push_of_some _ ho)
  · exact (Heap.get?_update_self _ (Heap.get?_push_of_some _ ke) rfl).trans rfl
end
/-- what the written part says of an own exception class whose __init__ calls super() -/
structure SupIn (P : Program) (K : PySem.W.Frag) (C cda cc : Addr) (qual : Str) : Prop where
  code : ∃ (ccl : Value) (cdd : Option Addr) (vs : Array Value) (ccs : Array (Option Value)) (file : Str) (tf : Tok), K.lookup cda = some ⟨ccl, cdd, .fields vs, ccs⟩ ∧ vs[2]? = some (.str file tf) ∧ ((P.main.file : Str) == file) = true
  rec_ : PySem.W.codeIn K (.ref cda) qual = true
  cell : ∃ (cl : Value) (cld : Option Addr) (csl : Array (Option Value)), K.lookup cc = some ⟨cl, cld, .cell (some (.ref C)), csl⟩
  cls : ∃ cd, PySem.W.clsIn K C = some cd
  sub : PySem.W.mroIn K C (.ref C) = some true
  sup : PySem.W.ks_superIn K C C "__init__" = some (some (.builtin "ValueError.__init__"))
  ve : PySem.W.subIn K (.ref C) (.type "ValueError") = some true
  opq : PySem.W.nsIn K cStatics "thirdparty.any" = some none
  top : (P.main.scope.names.lookup ("super" : Str)).isSome = false
def sp_sup (C : Addr) (ok : V → Prop) (nm : Str) : Sp := fun vs H Q _ => ∃ (a : Addr) (v : V), vs = [.ref a, v] ∧ H a = some (exo a C none) ∧ ok v ∧ ∀ dx, H dx = none → dx ≠ a → Q .non (upd (upd H dx (exd dx [(nm, v)])) a (exo a C (some dx)))
section
open PySem.W
theorem sup_init {P : Program} {w : World} {K : PySem.W.Frag} {mg : Str → Option Value} {base : Heap} {CX : CXT} {k : Nat} {C f cda cc : Addr} {name qual : Str} {params : Arguments} {scope : Scope} {dV kV doc pm ct oc : Value} {an od : Option Addr} {osl : Array (Option Value)}
    {x1 x2 nm : Str} {arg : Expr} {ta : TA} {ok : V → Prop} {p0 p1 p2 p3 p4 p5 p6 p7 p8 : Pos} {ar : Arg}
    (lk : K.lookup f = some ⟨oc, od, .func (ksFn name qual params [.Expr (.Call (.Attribute (.Call (.Name "super" p0) [] [] p1) "__init__" p2) [arg] [] p3) p4, .Assign [.Attribute (.Name x1 p5) nm p6] (.Name x2 p7) p8] scope dV kV doc pm an (.ref cda) ct cc), osl⟩)
    (S : SupIn P K C cda cc qual) (OC : OexC K C) (hnm : PySem.W.findIn K (.ref C) nm = some none) (hms : mg "super" = none)
    (hk : scope.kind = .function) (hco : scope.isCoroutine = false) (hgen : scope.isGenerator = false) (hcell : ∀ x ∈ scope.names, x.2 ≠ .cell)
    (hks : scope.names.lookup ("super" : Str) = some .globalImplicit) (hkc : scope.names.lookup ("__class__" : Str) = some .free) (hfree : ∀ y, scope.names.lookup y = some .free → y = "__class__") (hnocell : ∀ y, scope.names.lookup y ≠ some .cell)
    (l1 : scope.names.lookup x1 = some .local) (l2 : scope.names.lookup x2 = some .local) (hne : (x1 == x2) = false) (hp : (params.posonlyargs ++ params.args).head? = some ar) (har : ar.arg = x1)
    (hd1 : (x1 == ("__debug__" : Str)) = false) (hd2 : (x2 == ("__debug__" : Str)) = false) (hc1 : (x1 == ("__classdict__" : Str)) = false) (hc2 : (x2 == ("__classdict__" : Str)) = false)
    (ha : ∀ (A : Around) (outer : List Env) (s : Shared) (H : Hp) (E : XK), PA (cxClo CX P w K mg base [x1, x2] qual scope f (.ref cda) [("__class__", cc)] A outer s H E) [arg] ta)
    (hta : ∀ (v1 v2 : V) (H : Hp) (Q : List V → Hp → Prop), ok v2 → (∀ y : Str, Q [.str y] H) → ta [some v1, some v2] H Q)
    (hse : ∀ env, starEach [arg] env = (false, eval arg env) :: starEach [] env) (hkw : ∀ env, eval (.Call (.Attribute (.Call (.Name "super" p0) [] [] p1) "__init__" p2) [arg] [] p3) env = (do
      let ov ← attributeBase (.Call (.Name "super" p0) [] [] p1) "__init__" env (eval (.Call (.Name "super" p0) [] [] p1) env)
      standAt p2.atName
      let (fn, first) ← holding [ov] (getMethod ov "__init__" (pure false))
      callWith p3 fn first (backTo p3 (starEach [arg] env)) [])) :
    FnOk P w K mg base CX (k + 1) f (ksFn name qual params [.Expr (.Call (.Attribute (.Call (.Name "super" p0) [] [] p1) "__init__" p2) [arg] [] p3) p4, .Assign [.Attribute (.Name x1 p5) nm p6] (.Name x2 p7) p8] scope dV kV doc pm an (.ref cda) ct cc) [x1, x2] (sp_sup C ok nm) := by
  refine ⟨fun vs H Q E h => by obtain ⟨a, v, rfl, _⟩ := h; rfl, fun A outer s H args us vs Q E hr e0 hb r hsp => ?_⟩
  obtain ⟨a, v, rfl, ea, hv, q⟩ := hsp
  cases r with
  | @cons _ ua _ us' ra rr =>
  cases rr with
  | @cons _ u2 _ us'' r2 rn =>
  cases rn
  obtain rfl : ua = Value.ref a := ra
  have KX : K.In s.heap := e0.mod.kin.keeps fun b o e => (e0.bs b o e).1
  have lim : s.heap.NoLimit := e0.mod.nolimit.keeps fun b o e => (e0.bs b o e).1
  obtain ⟨ccl, cdd, vs, ccs, file, tf, hcode, hvs, hfile⟩ := S.code
  obtain ⟨ccv, cld, csl, hcl⟩ := S.cell
  obtain ⟨cd, hcd⟩ := S.cls
  have CO : CloOk base scope [("__class__", cc)] := by
    refine ⟨hk, fun y z c h1 h2 => ?_, fun y h => ?_, fun y c h => ?_⟩
    · rw [List.lookup_cons] at h1 h2
      split at h1
      · split at h2
        · rename_i a1 _ a2
          rw [eq_of_beq a1, eq_of_beq a2]
        · simp at h2
      · simp at h1
    · rcases h with h | h
      · exact absurd h (hnocell y)
      · rw [hfree y h]
        exact ⟨cc, List.lookup_cons_self⟩
    · rw [List.lookup_cons] at h
      split at h
      · cases h
        exact ⟨_, _, e0.mod.kin _ _ hcl, rfl⟩
      · simp at h
  refine ks_codeAny_call_defAt (binds := [(x1, .ref a), (x2, u2)]) hr.depth (KX _ _ lk) rfl lim (codeRec_of KX S.rec_) rfl hb hcell (fun y hy => ?_) (fun h1 ns kp => ?_) hco hgen hk
  · simp only [List.mem_cons, List.not_mem_nil, or_false] at hy
    rcases hy with rfl | rfl
    · exact l1
    · exact l2
  have I0 := inv_clo (CX := CX) (tk := s.toks + 2) CO hr.hd e0 (E := E) (f := f) (qual := qual) (cd := .ref cda) (v1 := .ref a) rfl r2 hne l1 l2 ns kp
  have K1 : K.In h1 := KX.keeps kp
  obtain ⟨oD, hD1, hD2⟩ : ∃ oD, h1.get? C = some oD ∧ oD.data = .cls cd := by
    have hcd' := hcd
    unfold clsIn at hcd'
    split at hcd'
    · rename_i c d cd' sl z
      cases hcd'
      exact ⟨_, K1 _ _ z, rfl⟩
    · cases hcd'
  obtain ⟨t1, ho⟩ := exo_at I0.hok ea
  obtain ⟨mb, m1, m2⟩ := e0.mod.blt
  have kb : ∀ b o, base.get? b = some o → h1.get? b = some o := fun b o e => kp b o (e0.bs b o e).1
  refine ks_wpAt_execs_cons (ks_wpAt_Expr_any (ks_wpAt_MethodCall ?_ (hkw _)) (by show (scope.kind == .module && _) = false; rw [hk]; rfl))
  refine ks_wpAt_super_base hks hkc (by decide) rfl (K1 _ _ lk) rfl hp rfl (K1 _ _ hcode) rfl hvs hfile S.top ?_
  refine ks_loadName_global hk hks (Calls.loadGlobal_builtin (e0.mod.glob.keeps kb) hms (m1.keeps kb) ((m2 "super" (by decide)).trans (by decide +kernel : bootBuiltins "super" = some (.type "super"))) ⟨rfl, ?_⟩)
  refine wpAny_loadName_free hk hkc List.lookup_cons_self ⟨_, K1 _ _ hcl, rfl⟩ ?_
  refine wpAny_loadName_local (v := .ref a) hk (by rw [har]; exact l1) ns ?_ ?_
  · rw [har]
    show List.lookup x1 [(x2, u2), (x1, Value.ref a)] = _
    rw [List.lookup_cons, hne, List.lookup_cons_self]
  refine ks_wpAny_isType_cls hD1 hD2 ⟨rfl, ?_⟩
  refine ks_wpAny_call_super hD1 hD2 ho rfl (fun c e => by cases e) (looks_mroIn K1 S.sub) (fun h2 e2 k2 => ?_)
  have K2 : K.In h2 := K1.keeps k2
  have ho2 := k2 _ _ ho
  have IA : InstAt h2 a _ C none := ⟨ho2, rfl, rfl, trivial⟩
  have hsup : alongIn K "__init__" ((cd.mro.dropWhile (· != .ref C)).drop 1) = some (some (.builtin "ValueError.__init__")) := by
    have z := S.sup
    unfold ks_superIn at z
    rw [hcd] at z
    exact z
  refine kxs_getMethod kxs_ValueError e2 (looks_opaque K2 S.opq) (l₀ := cd.mro) (fun A Q E s k q => wpAny_bind ((looks_clsIn K2 hcd) A _ E s k (wpAny_pure q))) rfl K2 hsup (IA.type.andThen (looks_subIn K2 S.ve)) (ks_ne K2 IA hcd) (by decide) ?_
  have I2 := I0.kept (h' := h2) (t' := s.toks + 2) k2
  have I3 := I2.kept (h' := h2.push (kxs_mw "ValueError.__init__" a)) (t' := s.toks + 2 + 1) fun b o e => Heap.get?_push_of_some _ e
  have I4 := Inv_pin I3 (u := h2.objs.size) (o := kxs_mw "ValueError.__init__" a) (Heap.get?_push_size _ rfl) (I2.hok.fresh (Nat.le_refl _)) (Nat.ne_of_gt I2.lt) (I2.nofs (Nat.le_refl _)) (fun c e => by cases e)
  have HA := (ha A outer s H E).run p3 _ _ _ H (fun vs H' => H' = H ∧ ∃ y, vs = [.str y]) I4 (hta _ _ _ _ hv fun y => ⟨rfl, y, rfl⟩)
  refine kxs_callWith (i := "ValueError.__init__") (x := a) (by rw [hse]; rfl) ?_
  rw [hse]
  refine Calls.evalArgs_plain ?_
  have HA2 := HA
  rw [hse] at HA2
  refine wpAny_mono HA2 (fun us s5 hv5 => ?_) fun _ _ z => z
  obtain ⟨vs5, H5, I5, r5, rfl, y, rfl⟩ := hv5
  obtain ⟨hp5, g5, d5, t5, os5⟩ := s5
  have hu5 := (I5.pin (h2.objs.size, kxs_mw "ValueError.__init__" a) (List.mem_append_right _ List.mem_cons_self)).1
  obtain ⟨t9, ho5⟩ := exo_at I5.hok ea
  obtain ⟨nm', q', N', bs, bm, sn, sub, ab, col, dd, k0, k1, k3, k4, k5, hC, _⟩ := OC.cls
  refine ⟨hu5, call_mwV (I5.kIn _ _ hC) ho5 hu5 ?_ fun h6 t6 k6 e6 => ?_⟩
  · show (us.length) ≤ sizeLine
    rw [← r5.length]
    exact (by decide : 1 ≤ sizeLine)
  · have J0 := (Inv_unpin I5).write (t' := t5) (x := a) (e := a) (o := exo a C none) (by rw [ea]; exact True.intro) (.inl rfl) k6 ⟨_, e6⟩ (exo_ok e6)
    have eu : upd H5 a (exo a C none) = H5 := by
      funext b
      by_cases hb : b = a
      · rw [hb, upd_same, ea]
      · rw [upd_ne hb]
    rw [eu] at J0
    show _root_.PySem.wpAt _ _ _ _ _ _ _
    refine wpAt_of_wpAny (wpAny_mono ((pss_one (ps_ost (p' := p6) (pe_var (i := 0) rfl (.inl l1) hd1 hc1) (pe_var (i := 1) rfl (.inl l2) hd2 hc2) (by rfl))).run [] _ _ H5 { nx := fun _ H' => Q .non H', rt := Q } J0 ?_) (fun fl s' hs => ?_) fun e s' hs => hs)
    · exact ⟨_, rfl, _, rfl, a, C, rfl, OC, hnm, .inl ⟨ea, q⟩⟩
    · have fin : ∀ {σ' : L2.St} {H' : Hp} {v : V} {u : Value}, L2.Inv (cxClo CX P w K mg base [x1, x2] qual scope f (.ref cda) [("__class__", cc)] A outer s H5 E) [] σ' H' s' → L2.RelV v u → Q v H' → L2.CE outer P w H5 s Q u s' :=
        fun {σ' H' v u} J rv q => ⟨v, H', J.os, J.bare, J.base, J.hok, rv, q⟩
      cases fl with
      | ret u =>
        obtain ⟨v', σ', H', J, rv, q⟩ := hs
        exact fin J rv q
      | next =>
        obtain ⟨σ', H', J, q⟩ := hs
        exact fin (v := V.non) (u := Value.none) J rfl q
      | brk =>
        obtain ⟨_, _, _, q⟩ := hs
        exact False.elim q
      | cont =>
        obtain ⟨_, _, _, q⟩ := hs
        exact False.elim q
end
end FX
set_option Elab.async false
set_option linter.all false
set_option maxRecDepth 100000
set_option maxHeartbeats 8000000
/-! own rule: several except clauses, of which some give the exception a name -/
namespace FX
open PySem PySem.Spec PyProof.Rows L2
abbrev Suite := Addr → Value → Option Addr → TS
/-- the ends of a suite behind which slot i is empty -/
def gone (i : Nat) (D : Ends) : Ends := { nx := fun σ H => D.nx (σ.set i none) H, rt := D.rt, bk := fun σ H => D.bk (σ.set i none) H, ct := fun σ H => D.ct (σ.set i none) H }
def wMix (K : PySem.W.Frag) (Wout : WX) (D : Ends) : List (Value × Option Nat × Suite) → WX
  | [] => Wout
  | (c, none, ts) :: r => fun cls d σ H => ∃ b, PySem.W.exmOne K cls c = some b ∧ (b = true → ∀ a, H a = none → ts a cls d D σ H) ∧ (b = false → wMix K Wout D r cls d σ H)
  | (c, some i, ts) :: r => fun cls d σ H => ∃ b, PySem.W.exmOne K cls c = some b ∧ (b = true → ∀ a, H a = none → i < σ.length → ts a cls d (gone i D) (σ.set i (some (.ref a))) H) ∧ (b = false → wMix K Wout D r cls d σ H)
inductive MixOk (X : Cx) : List ExceptHandler → List (Value × Option Nat × Suite) → Prop
  | nil : MixOk X [] []
  | bare {x : Str} {c : Value} {ts : Suite} {b₀ : Stmt} {suite : List Stmt} {np hp : Pos} {more : List ExceptHandler} {l : List (Value × Option Nat × Suite)} (nc : Names X x c)
      (su : ∀ (a : Addr) (oe : Obj) (cls : Value) (d : Option Addr) (pn : List (Addr × Obj)), Zc cls d oe → (∃ vs, oe.data = .fields vs) → PSs (X.suite a ((a, oe) :: pn)) (b₀ :: suite) (ts a cls d)) (r : MixOk X more l) :
      MixOk X (.ExceptHandler (some (.Name x np)) none (b₀ :: suite) hp :: more) ((c, none, ts) :: l)
  | named {x n : Str} {c : Value} {i : Nat} {ts : Suite} {b₀ : Stmt} {suite : List Stmt} {np hp : Pos} {more : List ExceptHandler} {l : List (Value × Option Nat × Suite)} (nc : Names X x c) (nd : X.N.Nodup) (at_ : X.N[i]? = some n) (loc : X.env.kindOf n = some .local)
      (su : ∀ (a : Addr) (oe : Obj) (cls : Value) (d : Option Addr) (pn : List (Addr × Obj)), Zc cls d oe → (∃ vs, oe.data = .fields vs) → PSs (X.suite a ((a, oe) :: pn)) (b₀ :: suite) (ts a cls d)) (r : MixOk X more l) :
      MixOk X (.ExceptHandler (some (.Name x np)) (some n) (b₀ :: suite) hp :: more) ((c, some i, ts) :: l)
section
variable {X : Cx} {body : List Stmt} {e0 : ExceptHandler} {more : List ExceptHandler} {l : List (Value × Option Nat × Suite)} {pos : Pos} {tb : WX → TS} {Wout : WX}
theorem ps_try_mix (stk : X.stack = X.env :: X.outer) (fra : X.env.frame = some X.env.locals) (tkn : Takes X Wout)
    (bd : ∀ (W : WX) (pn : List (Addr × Obj)) (xe : Value → Shared → Prop), Takes (X.tr pn xe) W → PassesOwn (model X.prog X.w) X.A X.env xe → PSs (X.tr pn xe) body (tb W))
    (hh : MixOk X (e0 :: more) l) : L2.PS X (.Try body (e0 :: more) [] [] pos) (fun D σ H => tb (wMix X.K Wout D l) D σ H) := by
  refine ⟨fun pins s σ H D I hq => ?_⟩
  have ok := I.ok
  have frm : X.A.frames = some (X.env :: X.outer) := by rw [ok.frames, stk]
  refine wpAny_Try_except (wpAny_mono ((bd (wMix X.K Wout D l) (X.pn ++ pins) (fun e sa => wpAny (model X.prog X.w) X.A (noteFrame e X.env) (fun _ sb => wpAny (model X.prog X.w) X.A (setFlight e none) (fun _ sc =>
    wpAny (model X.prog X.w) X.A (handleBy e X.env (e0 :: more)) (SP X pins D) X.xe sc) X.xe sb) X.xe sa) (fun u s' xx => ?_) PassesOwn.looking).run [] s σ H D (I.toTry _) hq) (fun fl s1 hs1 => ?_) (fun e s1 he => he))
  · obtain ⟨a, B, sI, pins', σ', H', cls, d, rfl, J', nb, up, sky, na, os, ag, wish⟩ := xx
    have J : L2.Inv X pins σ' H' sI := J'.ofTry ok
    show wpAny (model X.prog X.w) X.A (noteFrame (.ref a) X.env) _ _ _
    refine Sky.land Zc.steady frm fra (by rw [← stk]; exact sky : Sky B (X.env :: X.outer) a (Zc cls d) X.env.locals s'.heap) fun h3 fl3 up3 => ?_
    have J3 : L2.Inv X pins σ' H' { s' with heap := h3 } := J.landed nb fl3.1 (up.trans up3) os ag
    obtain ⟨oe3, vs3, he3, hz3, hd3⟩ := fl3.there
    have nfr : a ∉ frs (X.env :: X.outer) := fun hm => by
      obtain ⟨_, oo, eo, no⟩ := fl3.2.2.1.mem hm
      rw [he3] at eo; cases eo; exact no _ hd3
    have nL : a ≠ X.env.locals := fun z => nfr (List.mem_filterMap.mpr ⟨X.env, List.mem_cons_self, fra.trans (congrArg some z.symm)⟩)
    have nF : a ∉ X.fs := fun hm => by
      obtain ⟨e, he, qq⟩ := List.mem_filterMap.mp hm
      exact nfr (List.mem_filterMap.mpr ⟨e, List.mem_cons_of_mem _ he, qq⟩)
    have S3 := J3.suite he3 hd3 na nL nF
    have test : ∀ {x : Str} {c : Value} {np : Pos} {Q : Value → Shared → Prop} {E : Value → Shared → Prop}, Names X x c → Q c { s' with heap := h3 } → wpAny (model X.prog X.w) (X.A.mark (some (.ref a))) (eval (.Name x np) X.env) Q E { s' with heap := h3 } := fun {x c np Q E} nc q => by
      obtain ⟨hg, hdb, hm | ⟨hm, hv, hnn⟩⟩ := nc
      · exact ld_glob (X := X.suite a ((a, oe3) :: (X.pn ++ pins))) S3 hg hm q hdb
      · exact ld_blt (X := X.suite a ((a, oe3) :: (X.pn ++ pins))) S3 hg hm hv q hnn hdb
    have LT : PySem.W.Looks (model X.prog X.w) h3 (typeOf (.ref a)) cls := fun A Q E s k q => wpAny_typeOf_ref (k _ _ he3) (hz3.1.symm ▸ q)
    suffices go : ∀ {es : List ExceptHandler} {l' : List (Value × Option Nat × Suite)}, MixOk X es l' → wMix X.K Wout D l' cls d σ' H' →
        wpAny (model X.prog X.w) X.A (handleBy (.ref a) X.env es) (SP X pins D) X.xe { s' with heap := h3 } from go hh wish
    intro es l' hk
    induction hk with
    | nil =>
      intro ww
      refine wpAny_handleBy_nil ?_
      obtain ⟨_, _, _, oe, vs, T, oT, ts', he, hz, hd, hv1, _⟩ := id fl3
      unfold PySem.passOn
      refine wpAny_bind (wpAny_field he hd hv1 ?_)
      rw [if_neg (show ¬ ((Value.ref T == Value.none) = true) from fun z => by simp at z)]
      have last : wpAny (model X.prog X.w) X.A (setFlight (.ref a) X.env.frame) (fun _ s4 => wpAny (model X.prog X.w) X.A (throw (.ref a) : Sem Flow) (SP X pins D) X.xe s4) X.xe { s' with heap := h3 } := by
        rw [fra]
        exact HandSPX.setFlight_upZ fl3 fun h4 hh4 up4 => wpAny_throw (tkn _ _ ⟨a, B, sI, pins, σ', H', cls, d, rfl, J, nb, (up.trans up3).trans up4, .inr (.inr (by rw [stk]; exact hh4)), na, os, ag, ww⟩)
      first | exact wpAny_bind (wpAny_pure (wpAny_bind last)) | exact wpAny_bind last
    | @bare x c ts b₀ suite np hp more2 l2 nc su r ih =>
      rintro ⟨b, hb1, yes, no⟩
      refine wpAny_handleBy_cons (codeAny_handlers_test (test nc ((PySem.W.exm_one (M := model X.prog X.w) J3.kIn LT hb1).here ?_))) (by intro z; cases z)
      cases b with
      | false => exact ih (no rfl)
      | true =>
        refine codeAny_handlers_suite (HandSPX.lands_againZ fl3 fun h4 fl4 up4 => ?_)
        have J4 : L2.Inv X pins σ' H' { s' with heap := h4 } := J.landed nb fl4.1 ((up.trans up3).trans up4) os ag
        obtain ⟨oe4, vs4, he4, hz4, hd4⟩ := fl4.there
        refine wpAny_mono ((su a oe4 cls d (X.pn ++ pins) hz4 ⟨_, hd4⟩).run [] _ _ H' _ (J4.suite he4 hd4 na nL nF) (yes rfl a na)) (fun fl s6 h6 => ?_) (fun _ _ z => z.elim)
        cases fl with
        | ret u => obtain ⟨v6, σ6, H6, S6, r6, q6⟩ := h6; exact ⟨_, _, _, S6.unsuite ok, r6, q6⟩
        | next => obtain ⟨σ6, H6, S6, q6⟩ := h6; exact ⟨_, _, S6.unsuite ok, q6⟩
        | brk => obtain ⟨σ6, H6, S6, q6⟩ := h6; exact ⟨_, _, S6.unsuite ok, q6⟩
        | cont => obtain ⟨σ6, H6, S6, q6⟩ := h6; exact ⟨_, _, S6.unsuite ok, q6⟩
    | @named x n c i ts b₀ suite np hp more2 l2 nc nd at_ loc su r ih =>
      rintro ⟨b, hb1, yes, no⟩
      refine wpAny_handleBy_cons (codeAny_handlers_test (test nc ((PySem.W.exm_one (M := model X.prog X.w) J3.kIn LT hb1).here ?_))) (by intro z; cases z)
      cases b with
      | false => exact ih (no rfl)
      | true =>
        refine codeAny_handlers_suite_as (HandSPX.lands_againZ fl3 fun h4 fl4 up4 => ?_)
        have J4 : L2.Inv X pins σ' H' { s' with heap := h4 } := J.landed nb fl4.1 ((up.trans up3).trans up4) os ag
        obtain ⟨oe4, vs4, he4, hz4, hd4⟩ := fl4.there
        refine store_ok (X := X.suite a ((a, oe4) :: (X.pn ++ pins))) (v := .ref a) (J4.suite he4 hd4 na nL nF) nd at_ (.inl loc) rfl (fun s5 S5 => ?_) (.inr loc)
        refine wpAny_mono ((su a oe4 cls d (X.pn ++ pins) hz4 ⟨_, hd4⟩).run [] s5 _ H' _ S5 (yes rfl a na (by rw [J.len]; exact (List.getElem?_eq_some_iff.mp at_).1))) (fun fl s6 h6 => ?_) (fun _ _ z => z.elim)
        have out : ∀ {σ6 : L2.St} {H6 : Hp} {Q : Shared → Prop}, L2.Inv (X.suite a ((a, oe4) :: (X.pn ++ pins))) [] σ6 H6 s6 → (∀ s7, L2.Inv X pins (σ6.set i none) H6 s7 → Q s7) →
            wpAny (model X.prog X.w) X.A (do bindName X.env n .none; unbindBehindTheSuite X.env n hp) (fun _ s7 => Q s7) X.xe s6 := fun S6 hq => gone_ok (S6.unsuite ok) nd at_ loc hq
        cases fl with
        | ret u => obtain ⟨v6, σ6, H6, S6, r6, q6⟩ := h6; exact out S6 fun s7 J7 => ⟨_, _, _, J7, r6, q6⟩
        | next => obtain ⟨σ6, H6, S6, q6⟩ := h6; exact out S6 fun s7 J7 => ⟨_, _, J7, q6⟩
        | brk => obtain ⟨σ6, H6, S6, q6⟩ := h6; exact out S6 fun s7 J7 => ⟨_, _, J7, q6⟩
        | cont => obtain ⟨σ6, H6, S6, q6⟩ := h6; exact out S6 fun s7 J7 => ⟨_, _, J7, q6⟩
  · cases fl with
    | ret u => obtain ⟨v, σ', H', J', rv, q⟩ := hs1; exact ⟨v, σ', H', J'.ofTry ok, rv, q⟩
    | next => obtain ⟨σ', H', J', q⟩ := hs1; exact wpAny_execs_nil ⟨σ', H', J'.ofTry ok, q⟩
    | brk => obtain ⟨σ', H', J', q⟩ := hs1; exact ⟨σ', H', J'.ofTry ok, q⟩
    | cont => obtain ⟨σ', H', J', q⟩ := hs1; exact ⟨σ', H', J'.ofTry ok, q⟩
end
end FX
set_option Elab.async false
set_option linter.all false
set_option maxRecDepth 100000
set_option maxHeartbeats 4000000
namespace FX
open PySem PySem.W PyProof.Rows L2
section
variable {prog : Program} {w : World} {A : Around} {E : Value → Shared → Prop} {s : Shared} {K : PySem.W.Frag} {x y C f : Addr} {ox : Obj} {od : Option Obj}
theorem ifBoundB {name : Str} {id : String} {args : List Value} {Q : Option Value → Shared → Prop} (X : K.In s.heap) (I : PySem.W.InstAt s.heap x ox C od) (hs : findIn K (.ref C) name = some (some (.builtin id))) (hb : ∀ self, bindSpecial (.builtin id) self = pure (.builtin id, [self]))
    (h : wpAny (model prog w) A (call (.builtin id) (.ref x :: args)) (fun v => Q (some v)) E s) : wpAny (model prog w) A (callSpecialIfBound? (.ref x) name args) Q E s := by
  simp only [callSpecialIfBound?, bindSpecialIfBound?]
  refine wpAny_holding (wpAny_bind (wpAny_bind (wpAny_bind (I.type.here ((looks_findIn X hs).here ?_)))))
  simp only [hb]
  refine wpAny_bind (wpAny_askSetting (wpAny_ite ?_))
  have fin : wpAny (model prog w) A (call (.builtin id) ([.ref x] ++ args) >>= fun v => pure (some v)) Q E s := wpAny_bind (wpAny_mono h (fun v s' h' => wpAny_pure h') fun _ _ h' => h')
  split
  · exact wpAny_bind (wpAny_pure (wpAny_pure fin))
  · exact wpAny_tryCatch (wpAny_bind (wpAny_pure (wpAny_pure fin)))
theorem ne_own {Q : Value → Shared → Prop} (hu : A.units + 1 < cLine) (X : K.In s.heap) (I : PySem.W.InstAt s.heap x ox C od) (hy : Looks (model prog w) s.heap (typeOf (.ref y)) (.ref C)) (hne : findIn K (.ref C) "__ne__" = some (some (.builtin "object.__ne__")))
    (heq : findIn K (.ref C) "__eq__" = some (some (.ref f))) (hf : isFn K (.ref f) = true) (hm : mroIn K C (.type "object") = some true)
    (h : codeAny (model prog w) A.in1 (.call (.ref f) ⟨[.ref x, .ref y], []⟩) (fun r s' => match r with | .ok (.ret v) => ∃ b, v = .bool b ∧ Q (.bool (!b)) s' | .ok _ => False | .error e => E e s') s) : wpAny (model prog w) A (richCompare .NotEq (.ref x) (.ref y)) Q E s := by
  have hi : Looks (model prog w) s.heap (isInstance (.ref x) (.type "object")) true := (I.type (M := model prog w)).andThen (looks_subIn X (show subIn K (.ref C) (.type "object") = some true from hm))
  have one : wpAny (model prog w) A (tryCompare (.ref x) (cmpInfo .NotEq).2.1 (.ref y)) (fun r s' => ∃ v, r = some v ∧ Q v s') E s := by
    unfold tryCompare
    refine wpAny_bind (ifBoundB X I (name := "__ne__") hne F.cmp_object.ne.bind (wpAny_call (codeAny_call_builtin F.cmp_object.ne.plain F.cmpEntry_ne (check_slot F.cmpKind_ne F.cmpSplit_ne hi (F.cmpArgs_ne _ _) ?_))))
    unfold Builtin.«object.__ne__»
    have hu1 : A.in1.units < cLine := hu
    repeat (first | with_reducible refine wpAny_cRoomFor hu1 ?_ | with_reducible refine ifBound_K X I heq hf ?_ | wp_step)
    refine codeAny_mono h (fun r s' hr => ?_)
    cases r with
    | error e => exact hr
    | ok fl =>
      cases fl with
      | ret v =>
        obtain ⟨b, rfl, q⟩ := hr
        repeat (first | with_reducible refine wpAny_truthy_bool ?_ | wp_step)
        exact ⟨_, rfl, q⟩
      | next => exact False.elim hr
      | brk => exact False.elim hr
      | cont => exact False.elim hr
  unfold richCompare
  simp only [oneThing_ref]
  refine wpAny_holding (wpAny_bind (wpAny_cRoomFor (Nat.lt_of_succ_lt hu) ?_))
  refine wpAny_bind (I.type.here (wpAny_bind (hy.here ?_)))
  rw [if_neg (by simp)]
  refine wpAny_bind (wpAny_pure ?_)
  simp only [Bool.false_eq_true, if_false]
  refine wpAny_bind (wpAny_mono one (fun r s' z => ?_) fun _ _ e => e)
  obtain ⟨v, rfl, hq⟩ := z
  exact wpAny_pure hq
end
/-- x != y of instances of the class at C, by its own == (whose promise tells a Bool) -/
def rNeOwn (K : PySem.W.Frag) (C : Addr) (sp : Sp) : R2 := fun x y H Q => ∃ a b dx dy fs gs, x = .ref a ∧ y = .ref b ∧ H a = some (.ins C dx fs) ∧ H b = some (.ins C dy gs) ∧ sp [.ref a, .ref b] H (fun v H' => ∃ k, v = .bl k ∧ Q (.bl (!k)) H') E0
theorem op_neOwn {X : Cx} {k : Nat} {C f : Addr} {fd : FuncData} {ps : List Str} {sp : Sp} (F : FnOk X.prog X.w X.K X.mg X.base CX0 k f fd ps sp) (hr : Room (k + 1) X.A) (hne : findIn X.K (.ref C) "__ne__" = some (some (.builtin "object.__ne__")))
    (heq : findIn X.K (.ref C) "__eq__" = some (some (.ref f))) (hf : isFn X.K (.ref f) = true) (hm : mroIn X.K C (.type "object") = some true) (hb : Binds X.K fd ps []) : OpR X (compareOp .NotEq) (rNeOwn X.K C sp) := by
  intro pins s σ H x y v u Q I rx ry hq
  obtain ⟨a, b, dx, dy, fs, gs, rfl, rfl, ha, hb', hsp⟩ := hq
  cases rx
  cases ry
  obtain ⟨mA, J, _⟩ := ins_get I.hok ha
  obtain ⟨mB, J', _⟩ := ins_get I.hok hb'
  obtain ⟨od, J, _⟩ := J.look
  obtain ⟨od', J', _⟩ := J'.look
  have hl := F.len _ _ _ _ hsp
  refine ne_own (by have := hr.un; omega) I.kIn J J'.type hne heq hf hm ?_
  refine codeAny_mono (F.run X.A.in1 X.stack s H ⟨[.ref a, .ref b], []⟩ [.ref a, .ref b] [.ref a, .ref b] _ E0 hr.in1 I.env0.in1 (by
    have := hb s [.ref a, .ref b] I.kIn (by simpa using hl)
    simpa using this) (.cons rfl (.cons rfl .nil)) hsp) fun r s' hq => ?_
  cases r with
  | error e => exact pass0 (X := X) pins σ H s e s' I hq
  | ok fl =>
    cases fl with
    | ret w =>
      obtain ⟨z, H', I', rz, k, ez, q⟩ := I.after hq
      subst ez
      obtain rfl : w = .bool k := rz
      exact ⟨k, rfl, .bl (!k), H', I', rfl, q⟩
    | next => exact False.elim hq
    | brk => exact False.elim hq
    | cont => exact False.elim hq
end FX
set_option Elab.async false
set_option linter.all false
set_option maxRecDepth 100000
set_option maxHeartbeats 4000000
/-! own rule: len of an instance of a class with its own __len__; == of two instances by the class's own -/
namespace FX
open PySem PySem.W PyProof.Rows L2
/-- len(x), x an instance of the class at C, by its own def (whose promise tells a size) -/
def rLenOwn (C : Addr) (sp : Sp) : List V → Hp → VK → Prop := fun xs H Q => ∃ a dx fs, xs = [V.ref a] ∧ H a = some (.ins C dx fs) ∧ sp [.ref a] H (fun v H' => ∃ n : Int, v = .int n ∧ 0 ≤ n ∧ n < 2 ^ 63 ∧ Q (.int n) H') E0
theorem call_lenOwn {X : Cx} {k : Nat} {C f : Addr} {fd : FuncData} {ps : List Str} {sp : Sp} (F : FnOk X.prog X.w X.K X.mg X.base CX0 k f fd ps sp) (hr : Room (k + 1) X.A)
    (hs : findIn X.K (.ref C) "__len__" = some (some (.ref f))) (hf : isFn X.K (.ref f) = true) (hb : Binds X.K fd ps []) : CallR X (.builtin "len") (rLenOwn C sp) := by
  intro pins s σ H xs us Q I r h
  obtain ⟨a, dx, fs, rfl, ha, hsp⟩ := h
  obtain ⟨u, rfl, ru⟩ := vals1 r
  cases (show u = Value.ref a from ru)
  obtain ⟨mA, J, _⟩ := ins_get I.hok ha
  obtain ⟨od, J, _⟩ := J.look
  obtain ⟨m, hF⟩ := I.fr
  have hl := F.len _ _ _ _ hsp
  refine PySem.W.len_K hF I.ok.mod.kin J hs hf (wpAny_call (codeAny_mono (F.run X.A.in1 X.stack s H ⟨[.ref a], []⟩ [.ref a] [.ref a] _ E0 hr.in1 I.env0.in1 (by
    have := hb s [.ref a] I.kIn (by simpa using hl)
    simpa using this) (.cons rfl .nil) hsp) fun r s' hq => ?_))
  cases r with
  | error e => exact pass0 (X := X) pins σ H s e s' I hq
  | ok fl =>
    cases fl with
    | ret w =>
      obtain ⟨z, H', I', rz, n, ez, n0, n1, q⟩ := I.after hq
      subst ez
      obtain ⟨t, rfl⟩ := (show ∃ t, w = Value.int n t from rz)
      exact ⟨⟨n0, n1⟩, .int n, H', I'.tok _, ⟨_, rfl⟩, q⟩
    | next => exact False.elim hq
    | brk => exact False.elim hq
    | cont => exact False.elim hq
theorem first_self (K : PySem.W.Frag) (C : Addr) : PySem.W.notFirst K C (.ref C) = true := by
  unfold PySem.W.notFirst
  simp
/-- x == y of instances of the class at C, by its own == -/
def rEqOwn (C : Addr) (sp : Sp) : R2 := fun x y H Q => ∃ a b dx dy fs gs, x = .ref a ∧ y = .ref b ∧ H a = some (.ins C dx fs) ∧ H b = some (.ins C dy gs) ∧ sp [.ref a, .ref b] H Q E0
theorem op_eqOwn {X : Cx} {k : Nat} {C f : Addr} {fd : FuncData} {ps : List Str} {sp : Sp} (F : FnOk X.prog X.w X.K X.mg X.base CX0 k f fd ps sp) (hr : Room k X.A) (hn : notFirst X.K C (.ref C) = true)
    (heq : findIn X.K (.ref C) "__eq__" = some (some (.ref f))) (hf : isFn X.K (.ref f) = true) (hb : Binds X.K fd ps []) : OpR X (compareOp .Eq) (rEqOwn C sp) := by
  intro pins s σ H x y v u Q I rx ry hq
  obtain ⟨a, b, dx, dy, fs, gs, rfl, rfl, ha, hb', hsp⟩ := hq
  cases rx
  cases ry
  obtain ⟨mA, J, _⟩ := ins_get I.hok ha
  obtain ⟨mB, J', _⟩ := ins_get I.hok hb'
  obtain ⟨od, J, _⟩ := J.look
  obtain ⟨od', J', _⟩ := J'.look
  have hl := F.len _ _ _ _ hsp
  obtain ⟨m, hF⟩ := I.fr
  show wpAny _ _ (richCompare .Eq _ _) _ _ _
  refine PySem.W.cmp_K (op := .Eq) (tb := .ref C) hr.units0 hF I.ok.mod.kin J J'.type hn heq hf (wpAny_call (codeAny_mono (F.run X.A X.stack s H ⟨[.ref a, .ref b], []⟩ [.ref a, .ref b] [.ref a, .ref b] _ E0 hr I.env0 (by
    have := hb s [.ref a, .ref b] I.kIn (by simpa using hl)
    simpa using this) (.cons rfl (.cons rfl .nil)) hsp) fun r s' hq => ?_))
  cases r with
  | error e => exact pass0 (X := X) pins σ H s e s' I hq
  | ok fl =>
    cases fl with
    | ret w =>
      obtain ⟨z, H', I', rz, q⟩ := I.after hq
      exact SlX.cmpback rz ⟨z, H', I', rz, q⟩
    | next => exact False.elim hq
    | brk => exact False.elim hq
    | cont => exact False.elim hq
end FX
set_option Elab.async false
set_option linter.all false
set_option maxRecDepth 100000
set_option maxHeartbeats 4000000
/-! own rules: t[::-1] of a tuple, x[::-1] of a text -/
namespace FX
open PySem PySem.Spec PyProof.Rows L2 HT
section
variable {P : Program} {w : World} {A : Around} {E : Value → Shared → Prop} {s : Shared}
theorem adj_back (n : Nat) : Builtin.Slice.sliceAdjust none none (-1) (n : Int) = ((n : Int) - 1, -1) := by
  unfold Builtin.Slice.sliceAdjust
  rfl
theorem places_back (n : Nat) : Builtin.Slice.slicePlaces ((n : Int) - 1) (-1) (-1) = n := by
  unfold Builtin.Slice.slicePlaces
  rw [if_neg (by decide)]
  split
  · rw [show (- (-1 : Int)) = 1 from rfl, Int.ediv_one]
    omega
  · omega
theorem fm_congr {α β : Type} {f g : α → Option β} : ∀ {l : List α}, (∀ a ∈ l, f a = g a) → l.filterMap f = l.filterMap g
  | [], _ => rfl
  | a :: r, h => by
    rw [List.filterMap_cons, List.filterMap_cons, h a List.mem_cons_self, fm_congr fun b hb => h b (List.mem_cons_of_mem _ hb)]
theorem pick_back (xs : Array Value) : ((List.range xs.size).filterMap fun (m : Nat) => xs[((xs.size : Int) - 1 + (m : Int) * (-1)).toNat]?).toArray = xs.toList.reverse.toArray := by
  have e : ∀ m ∈ List.range xs.size, xs[((xs.size : Int) - 1 + (m : Int) * (-1)).toNat]? = xs.toList.reverse[m]? := fun m hm => by
    have hm' := List.mem_range.mp hm
    rw [List.getElem?_reverse (by simpa using hm'), show ((xs.size : Int) - 1 + (m : Int) * (-1)).toNat = xs.toList.length - 1 - m by rw [Array.length_toList]; omega]
    simp
  rw [show (List.range xs.size).filterMap (fun (m : Nat) => xs[((xs.size : Int) - 1 + (m : Int) * (-1)).toNat]?) = (List.range xs.size).filterMap (fun m => xs.toList.reverse[m]?) from fm_congr e]
  have h2 : xs.size = xs.toList.reverse.length := by simp
  rw [h2]
  congr 1
  generalize xs.toList.reverse = ys
  induction ys with
  | nil => rfl
  | cons y ys ih =>
    rw [List.length_cons, List.range_succ_eq_map, List.filterMap_cons, List.filterMap_map]
    show y :: List.filterMap (fun m => (y :: ys)[m + 1]?) (List.range ys.length) = _
    simpa using ih
theorem applied_back {sl : Addr} {vl vu vs : Value} {n : Nat} {Q : Int × Int × Nat → Shared → Prop} (hs : s.heap.IsSliceOf sl vl vu vs) (pl : IsPart vl none) (pu : IsPart vu none) (ps : IsPart vs (some (-1))) (h : Q ((n : Int) - 1, -1, n) s) :
    wpAny (model P w) A (Builtin.Slice.sliceApplied (.ref sl) (pure (n : Int))) Q E s := by
  obtain ⟨os, g1, g2, g3⟩ := id hs
  unfold Builtin.Slice.sliceApplied Builtin.Slice.sliceFields
  refine wpAny_bind (wpAny_bind (wpAny_field g1 g3 (x := vl) rfl (wpAny_bind (wpAny_field g1 g3 (x := vu) rfl (wpAny_bind (wpAny_field g1 g3 (x := vs) rfl (wpAny_pure ?_)))))))
  refine wpAny_bind (slicePart_ ps ?_)
  show wpAny _ _ (if ((-1 : Int) == 0) = true then _ else _) _ _ s
  rw [if_neg (by decide)]
  refine wpAny_bind (slicePart_ pl (wpAny_bind (slicePart_ pu (wpAny_bind (wpAny_pure ?_)))))
  show wpAny _ _ (match Builtin.Slice.sliceAdjust none none (-1) (n : Int) with | (i, j) => pure (i, (-1 : Int), Builtin.Slice.slicePlaces i j (-1))) _ _ s
  rw [adj_back]
  show wpAny _ _ (pure ((n : Int) - 1, (-1 : Int), Builtin.Slice.slicePlaces ((n : Int) - 1) (-1) (-1))) _ _ s
  rw [places_back]
  exact wpAny_pure h
theorem get_back {t sl : Addr} {items : Array Value} {vl vu vs : Value} {Q : Value → Shared → Prop} (ht : IsTup s.heap t items) (hs : s.heap.IsSliceOf sl vl vu vs) (pl : IsPart vl none) (pu : IsPart vu none) (ps : IsPart vs (some (-1)))
    (h : Q (.ref s.heap.objs.size) { s with heap := s.heap.push { cls := .type "tuple", data := .seq items.toList.reverse.toArray } }) (hsz : items.size ≤ sizeLine) : wpAny (model P w) A (getItem (.ref t) (.ref sl)) Q E s := by
  have ok : sizeOk (.seq items.toList.reverse.toArray) := by
    show items.toList.reverse.toArray.size ≤ sizeLine
    rw [List.size_toArray, List.length_reverse, Array.length_toList]
    exact hsz
  obtain ⟨os, g1, g2, g3⟩ := id hs
  unfold getItem
  try with_reducible refine wpAny_holding ?_
  first | refine wpAny_bind (wpAny_pure ?_) | skip
  refine wpAny_bind (wpAny_sequenceKey ht.typeIs (by decide) (wpAny_bind (wpAny_callSpecial?_slot (name := Str.ofString "__getitem__") ht.typeIs PyProof.Rows.slot_tuple_getitem (wpAny_call_entry PyProof.Rows.slot_tuple_getitem ht.typeIs entry_tuple_getitem ?_ (args_tuple_getitem _ _)))))
  show wpAny _ _ (Builtin.Tuple.tupleItemsOf (.ref t) >>= _) _ _ s
  refine wpAny_bind (tupleItemsOf_ ht (wpAny_bind (wpAny_typeOf (⟨os, g1, g2⟩ : s.TypeIs (.ref sl) "slice") ?_)))
  rw [if_pos (by decide)]
  refine wpAny_bind (applied_back hs pl pu ps ?_)
  show wpAny _ _ (if (((items.size : Int) - 1) == 0 && (-1 : Int) == 1 && items.size == items.size) = true then _ else _) _ _ s
  rw [if_neg (by simp), pick_back]
  first
    | exact wpAny_bind (m := Builtin.Tuple.tupleExact _) (wpAny_newObj_type (wpAny_pure ⟨_, rfl, wpAny_pure h⟩) ok)
    | exact wpAny_bind (m := Builtin.Tuple.tupleExact _) (wpAny_newObj_type (wpAny_bind (wpAny_pure (wpAny_pure ⟨_, rfl, wpAny_pure h⟩))) ok)
    | exact wpAny_bind (wpAny_bind (m := Builtin.Tuple.tupleExact _) (wpAny_newObj_type (wpAny_pure (wpAny_pure ⟨_, rfl, wpAny_pure h⟩)) ok))
    | exact wpAny_bind (wpAny_bind (m := Builtin.Tuple.tupleExact _) (wpAny_newObj_type (wpAny_pure ⟨_, rfl, wpAny_pure h⟩) ok))
end
theorem rev_map (z : Str) : ((List.range z.length).map fun k => z.cps.getD (z.length - 1 - k) 0) = z.cps.toList.reverse := by
  refine List.ext_getElem? fun j => ?_
  by_cases h : j < z.length
  · have hz : z.cps.toList.length = z.length := by simp [Str.length]
    rw [List.getElem?_map, List.getElem?_range h, List.getElem?_reverse (by omega), hz]
    have h2 : z.length - 1 - j < z.cps.size := show _ < z.length by omega
    simp [Array.getD, h2]
  · rw [List.getElem?_eq_none (by simp; omega), List.getElem?_eq_none (by simp [Str.length] at h ⊢; omega)]
def tRevT (K : PySem.W.Frag) (te : TE) : TE := fun σ H Q => te σ H fun x H1 => ∃ a xs, x = .ref a ∧ SqT K H1 a xs ∧ ∀ p, H1 p = none → Q (.ref p) (upd H1 p (.tup xs.reverse))
def tRevS (te : TE) : TE := fun σ H Q => te σ H fun x H1 => ∃ z : Str, x = .str z ∧ z.length ≤ sizeLine ∧ ∀ y : Str, y.cps.toList = z.cps.toList.reverse → Q (.str y) H1
section
variable {X : Cx}
theorem pe_revT {e : Expr} {te : TE} {k : Nat} {p1 p2 p3 pos : Pos} (he : PE X e te) : PE X (.Subscript e (.Slice none none (some (.UnaryOp .USub (.Constant (.int 1) k p1) p2)) p3) pos) (tRevT X.K te) := by
  refine ⟨fun pins s σ H Q I h => Subscript_ (thn (he.run pins s σ H _ I h) fun v s1 ⟨x, H1, I1, r1, q1⟩ => ?_)⟩
  obtain ⟨a, xs, rfl, hx, q⟩ := q1
  cases r1
  have hst : PO X (some (.UnaryOp .USub (.Constant (.int 1) k p1) p2)) (tPart (tUn (rU fun i => .int (-i)) (tC (.int 1)))) := po_some (pe_un un_neg pe_int)
  refine wpAny_Slice (thn (po_none.run pins s1 σ H1 (fun o H2 => o = none ∧ H2 = H1) I1 ⟨rfl, rfl⟩) fun vl s2 ⟨l, H2, I2, pl, e1, e2⟩ => ?_)
  subst e1 e2
  refine thn (po_none.run pins s2 σ H2 (fun o H3 => o = none ∧ H3 = H2) I2 ⟨rfl, rfl⟩) fun vu s3 ⟨u, H3, I3, pu, e3, e4⟩ => ?_
  subst e3 e4
  refine thn (hst.run pins s3 σ H3 (fun o H4 => o = some (-1) ∧ H4 = H3) I3 ⟨1, rfl, -1, rfl, rfl, rfl⟩) fun vs s4 ⟨o, H4, I4, ps, e5, e6⟩ => ?_
  subst e5 e6
  have I5 : L2.Inv X pins σ H4 { s4 with heap := s4.heap.push { cls := .type "slice", data := .fields #[vl, vu, vs] } } := I4.kept (t' := s4.toks) fun b ob q => Heap.get?_push_of_some _ q
  obtain ⟨its, r, ht, hz⟩ := I5.tuple hx
  have hl := r.length
  refine (show wpAny (model X.prog X.w) X.A (subscriptTail e (.Slice none none (some (.UnaryOp .USub (.Constant (.int 1) k p1) p2)) p3) (.ref a) (.ref s4.heap.objs.size)) (EP X pins σ Q) X.xe { s4 with heap := s4.heap.push { cls := .type "slice", data := .fields #[vl, vu, vs] } } from ?_)
  refine tail_any (ops := [.ref a, .ref s4.heap.objs.size]) ht.typeIs (PyProof.Rows.slot_tuple_getitem.lookup) ?_ (by with_unfolding_all rfl)
  refine get_back ht (Heap.IsSliceOf.new _ vl vu vs) pl pu ps ?_ (by rw [List.size_toArray]; omega)
  refine ⟨.ref _, _, I5.laid (t' := s4.toks) (o := .tup xs.reverse) (fun b ob q => Heap.get?_push_of_some _ q) (Nat.le_refl _) ?_, rfl, q _ (I5.hok.fresh (Nat.le_refl _))⟩
  exact ⟨by rw [List.length_reverse]; exact hz, _, r.reverse, IsTup.new _ _⟩
theorem pe_revS {e : Expr} {te : TE} {k : Nat} {p1 p2 p3 pos : Pos} (he : PE X e te) : PE X (.Subscript e (.Slice none none (some (.UnaryOp .USub (.Constant (.int 1) k p1) p2)) p3) pos) (tRevS te) := by
  refine ⟨fun pins s σ H Q I h => Subscript_ (thn (he.run pins s σ H _ I h) fun v s1 ⟨x, H1, I1, r1, q1⟩ => ?_)⟩
  obtain ⟨z, rfl, hz, q⟩ := q1
  obtain ⟨t, rfl⟩ := r1
  have hst : PO X (some (.UnaryOp .USub (.Constant (.int 1) k p1) p2)) (tPart (tUn (rU fun i => .int (-i)) (tC (.int 1)))) := po_some (pe_un un_neg pe_int)
  refine wpAny_Slice (thn (po_none.run pins s1 σ H1 (fun o H2 => o = none ∧ H2 = H1) I1 ⟨rfl, rfl⟩) fun vl s2 ⟨l, H2, I2, pl, e1, e2⟩ => ?_)
  subst e1 e2
  refine thn (po_none.run pins s2 σ H2 (fun o H3 => o = none ∧ H3 = H2) I2 ⟨rfl, rfl⟩) fun vu s3 ⟨u, H3, I3, pu, e3, e4⟩ => ?_
  subst e3 e4
  refine thn (hst.run pins s3 σ H3 (fun o H4 => o = some (-1) ∧ H4 = H3) I3 ⟨1, rfl, -1, rfl, rfl, rfl⟩) fun vs s4 ⟨o, H4, I4, ps, e5, e6⟩ => ?_
  subst e5 e6
  obtain ⟨l0, rfl, hl0⟩ := IsPart.raw pl
  obtain ⟨u0, rfl, hu0⟩ := IsPart.raw pu
  obtain ⟨k0, rfl, hk0⟩ := IsPart.raw ps
  obtain rfl : l0 = none := by cases l0 <;> first | rfl | cases hl0
  obtain rfl : u0 = none := by cases u0 <;> first | rfl | cases hu0
  obtain ⟨tk, rfl⟩ : ∃ tk, k0 = some ((-1 : Int), tk) := by
    cases k0 with
    | none => cases hk0
    | some p => obtain ⟨a, b⟩ := p; cases hk0; exact ⟨b, rfl⟩
  refine (show wpAny (model X.prog X.w) X.A (subscriptTail e (.Slice none none (some (.UnaryOp .USub (.Constant (.int 1) k p1) p2)) p3) (.str z t) (.ref s4.heap.objs.size)) (EP X pins σ Q) X.xe { s4 with heap := s4.heap.push { cls := .type "slice", data := .fields #[partValue none, partValue none, partValue (some ((-1 : Int), tk))] } } from ?_)
  refine tail_any (ops := [.str z t, .ref s4.heap.objs.size]) (typeIs_str _ z t) (F.slot_str_getitem.lookup) ?_ (by with_unfolding_all rfl)
  refine wpAny_getItem_str_slice (l := none) (u := none) (st := some ((-1 : Int), tk)) ⟨_, Heap.get?_push_size _ rfl, rfl, rfl⟩ rfl ?_
  have rl := step_rev_list z tk
  have no : ¬ (((((some ((-1 : Int), tk)).map (·.1)).getD 1 == 1) && (slicePicked z none none (some ((-1 : Int), tk))).length == z.length) = true) := by
    rw [show (((some ((-1 : Int), tk)).map (·.1)).getD 1 == 1) = false from rfl]
    simp
  unfold sliceMade
  unfold Txt.sliceBy at rl
  rw [if_neg no] at rl ⊢
  have rr := rl.trans (rev_map z)
  generalize hy : (⟨((slicePicked z none none (some ((-1 : Int), tk))).filterMap (z.cps[·]?)).toArray⟩ : Str) = y at rr ⊢
  have yl : y.length ≤ sizeLine := by
    have := congrArg List.length rr
    rw [List.length_reverse, Array.length_toList, Array.length_toList] at this
    show y.cps.size ≤ sizeLine
    rw [this]
    exact hz
  have I5 : L2.Inv X pins σ H4 { s4 with heap := s4.heap.push { cls := .type "slice", data := .fields #[partValue none, partValue none, partValue (some ((-1 : Int), tk))] } } := I4.kept (t' := s4.toks) fun b ob q => Heap.get?_push_of_some _ q
  exact ⟨yl, .str y, H4, I5.tok _, ⟨_, rfl⟩, q y rr⟩
end
end FX
set_option Elab.async false
set_option linter.all false
set_option maxRecDepth 100000
set_option maxHeartbeats 8000000
namespace K1
open PySem PySem.Spec PyProof.Rows L2 FX
def top (i : Nat) : Stmt := PySem.Challenge.pw_foldlook_k01_whole_machines.main.body.getD i (.Pass ⟨0, 0, 0, 0⟩)
abbrev s_is_whole : Stmt := top 7
theorem sc_is_whole : FnScope ["thing"] ["thing"] (defScope s_is_whole) := ⟨rfl, rfl, rfl, by decide +kernel, rfl, by decide +kernel, by decide +kernel⟩
abbrev s_is_letters : Stmt := top 8
theorem sc_is_letters : FnScope ["thing", "sign"] ["thing"] (defScope s_is_letters) := ⟨rfl, rfl, rfl, by decide +kernel, rfl, by decide +kernel, by decide +kernel⟩
abbrev s_is_value : Stmt := top 9
theorem sc_is_value : FnScope ["letters", "thing", "sign"] ["letters", "thing"] (defScope s_is_value) := ⟨rfl, rfl, rfl, by decide +kernel, rfl, by decide +kernel, by decide +kernel⟩
abbrev s_check_letters : Stmt := top 10
theorem sc_check_letters : FnScope ["letters"] ["letters"] (defScope s_check_letters) := ⟨rfl, rfl, rfl, by decide +kernel, rfl, by decide +kernel, by decide +kernel⟩
abbrev s_check_value : Stmt := top 11
theorem sc_check_value : FnScope ["letters", "value"] ["letters", "value"] (defScope s_check_value) := ⟨rfl, rfl, rfl, by decide +kernel, rfl, by decide +kernel, by decide +kernel⟩
abbrev s_Machine_init : Stmt := inClass (top 15) 0
theorem sc_Machine_init : FnScope ["self", "letters", "rows"] ["self", "letters", "rows"] (defScope s_Machine_init) := ⟨rfl, rfl, rfl, by decide +kernel, rfl, by decide +kernel, by decide +kernel⟩
abbrev s_Machine_eq : Stmt := inClass (top 15) 1
theorem sc_Machine_eq : FnScope ["self", "other"] ["self", "other"] (defScope s_Machine_eq) := ⟨rfl, rfl, rfl, by decide +kernel, rfl, by decide +kernel, by decide +kernel⟩
abbrev s_Machine_len : Stmt := inClass (top 15) 2
theorem sc_Machine_len : FnScope ["self"] ["self"] (defScope s_Machine_len) := ⟨rfl, rfl, rfl, by decide +kernel, rfl, by decide +kernel, by decide +kernel⟩
abbrev s_Machine_letters : Stmt := inClass (top 15) 3
theorem sc_Machine_letters : FnScope ["self"] ["self"] (defScope s_Machine_letters) := ⟨rfl, rfl, rfl, by decide +kernel, rfl, by decide +kernel, by decide +kernel⟩
abbrev s_Machine_rows : Stmt := inClass (top 15) 4
theorem sc_Machine_rows : FnScope ["self"] ["self"] (defScope s_Machine_rows) := ⟨rfl, rfl, rfl, by decide +kernel, rfl, by decide +kernel, by decide +kernel⟩
abbrev s_Machine_turn : Stmt := inClass (top 15) 5
theorem sc_Machine_turn : FnScope ["self", "state", "letter"] ["self", "state", "letter"] (defScope s_Machine_turn) := ⟨rfl, rfl, rfl, by decide +kernel, rfl, by decide +kernel, by decide +kernel⟩
abbrev s_Machine_made : Stmt := inClass (top 15) 6
theorem sc_Machine_made : FnScope ["self", "value"] ["self", "value"] (defScope s_Machine_made) := ⟨rfl, rfl, rfl, by decide +kernel, rfl, by decide +kernel, by decide +kernel⟩
abbrev s_Machine_state_after : Stmt := inClass (top 15) 7
theorem sc_Machine_state_after : FnScope ["self", "value"] ["self", "value"] (defScope s_Machine_state_after) := ⟨rfl, rfl, rfl, by decide +kernel, rfl, by decide +kernel, by decide +kernel⟩
abbrev s_Machine__after : Stmt := inClass (top 15) 8
theorem sc_Machine__after : FnScope ["self", "value", "state", "outs", "letter", "out"] ["self", "value"] (defScope s_Machine__after) := ⟨rfl, rfl, rfl, by decide +kernel, rfl, by decide +kernel, by decide +kernel⟩
abbrev s_check_rows : Stmt := top 16
theorem sc_check_rows : FnScope ["letters", "rows", "index", "row"] ["letters", "rows"] (defScope s_check_rows) := ⟨rfl, rfl, rfl, by decide +kernel, rfl, by decide +kernel, by decide +kernel⟩
abbrev s_is_row : Stmt := top 17
theorem sc_is_row : FnScope ["letters", "many", "row", "turn"] ["letters", "many", "row"] (defScope s_is_row) := ⟨rfl, rfl, rfl, by decide +kernel, rfl, by decide +kernel, by decide +kernel⟩
abbrev s_is_turn : Stmt := top 18
theorem sc_is_turn : FnScope ["letters", "many", "turn", "state", "out"] ["letters", "many", "turn"] (defScope s_is_turn) := ⟨rfl, rfl, rfl, by decide +kernel, rfl, by decide +kernel, by decide +kernel⟩
abbrev s_copying_row : Stmt := top 19
theorem sc_copying_row : FnScope ["letters", "state", "letter"] ["letters", "state"] (defScope s_copying_row) := ⟨rfl, rfl, rfl, by decide +kernel, rfl, by decide +kernel, by decide +kernel⟩
abbrev s_plain : Stmt := top 20
theorem sc_plain : FnScope ["letters"] ["letters"] (defScope s_plain) := ⟨rfl, rfl, rfl, by decide +kernel, rfl, by decide +kernel, by decide +kernel⟩
abbrev s_mapped : Stmt := top 21
theorem sc_mapped : FnScope ["letters", "outs", "out"] ["letters", "outs"] (defScope s_mapped) := ⟨rfl, rfl, rfl, by decide +kernel, rfl, by decide +kernel, by decide +kernel⟩
abbrev s_cut : Stmt := top 22
theorem sc_cut : FnScope ["letters", "many", "rows", "state"] ["letters", "many"] (defScope s_cut) := ⟨rfl, rfl, rfl, by decide +kernel, rfl, by decide +kernel, by decide +kernel⟩
abbrev s_stripped : Stmt := top 23
theorem sc_stripped : FnScope ["letters", "some", "first", "letter"] ["letters", "some"] (defScope s_stripped) := ⟨rfl, rfl, rfl, by decide +kernel, rfl, by decide +kernel, by decide +kernel⟩
abbrev s_squeezed : Stmt := top 24
theorem sc_squeezed : FnScope ["letters", "some", "rows", "last"] ["letters", "some"] (defScope s_squeezed) := ⟨rfl, rfl, rfl, by decide +kernel, rfl, by decide +kernel, by decide +kernel⟩
abbrev s_copying_turns : Stmt := top 25
theorem sc_copying_turns : FnScope ["letters", "silent", "at", "letter"] ["letters", "silent"] (defScope s_copying_turns) := ⟨rfl, rfl, rfl, by decide +kernel, rfl, by decide +kernel, by decide +kernel⟩
abbrev s_compare : Stmt := top 26
theorem sc_compare : FnScope ["letters", "one", "other", "places", "others", "letter"] ["letters", "one", "other"] (defScope s_compare) := ⟨rfl, rfl, rfl, by decide +kernel, rfl, by decide +kernel, by decide +kernel⟩
abbrev s_law_number : Stmt := top 28
theorem sc_law_number : FnScope ["script", "index", "cells", "cell", "low", "high", "total", "blend"] ["script", "index"] (defScope s_law_number) := ⟨rfl, rfl, rfl, by decide +kernel, rfl, by decide +kernel, by decide +kernel⟩
abbrev s_law_letters : Stmt := top 29
theorem sc_law_letters : FnScope ["script", "at"] ["script", "at"] (defScope s_law_letters) := ⟨rfl, rfl, rfl, by decide +kernel, rfl, by decide +kernel, by decide +kernel⟩
abbrev s_law_rows : Stmt := top 30
theorem sc_law_rows : FnScope ["script", "at", "letters", "most", "many", "found", "thin", "state", "row", "spot", "letter", "seed", "out"] ["script", "at", "letters", "most"] (defScope s_law_rows) := ⟨rfl, rfl, rfl, by decide +kernel, rfl, by decide +kernel, by decide +kernel⟩
abbrev s_law_value : Stmt := top 31
theorem sc_law_value : FnScope ["script", "at", "letters", "most", "seed", "found", "spot"] ["script", "at", "letters", "most"] (defScope s_law_value) := ⟨rfl, rfl, rfl, by decide +kernel, rfl, by decide +kernel, by decide +kernel⟩
abbrev s_law_turn : Stmt := top 32
theorem sc_law_turn : FnScope ["letters", "rows", "state", "letter"] ["letters", "rows", "state", "letter"] (defScope s_law_turn) := ⟨rfl, rfl, rfl, by decide +kernel, rfl, by decide +kernel, by decide +kernel⟩
abbrev s_law_ends : Stmt := top 33
theorem sc_law_ends : FnScope ["letters", "rows", "value", "state", "found", "letter", "out"] ["letters", "rows", "value"] (defScope s_law_ends) := ⟨rfl, rfl, rfl, by decide +kernel, rfl, by decide +kernel, by decide +kernel⟩
abbrev s_law_raised : Stmt := top 34
theorem sc_law_raised : FnScope ["call", "error"] ["call"] (defScope s_law_raised) := ⟨rfl, rfl, rfl, by decide +kernel, rfl, by decide +kernel, by decide +kernel⟩
abbrev s_law_ready_right : Stmt := top 35
theorem sc_law_ready_right : FnScope ["letters", "value", "some", "many", "begin", "found", "last", "letter", "outs", "ready", "sizes", "one"] ["letters", "value", "some", "many"] (defScope s_law_ready_right) := ⟨rfl, rfl, rfl, by decide +kernel, rfl, by decide +kernel, by decide +kernel⟩
abbrev s_law_bent : Stmt := top 36
theorem sc_law_bent : FnScope ["seed", "letters", "rows", "state", "spot", "kind", "row", "bad", "late"] ["seed", "letters", "rows"] (defScope s_law_bent) := ⟨rfl, rfl, rfl, by decide +kernel, rfl, by decide +kernel, by decide +kernel⟩
abbrev s_law_order_right : Stmt := top 37
theorem sc_law_order_right : FnScope ["script", "letters", "value", "other", "mine", "theirs", "due", "one"] ["script", "letters", "value"] (defScope s_law_order_right) := ⟨rfl, rfl, rfl, by decide +kernel, rfl, by decide +kernel, by decide +kernel⟩
abbrev s_law : Stmt := top 38
theorem sc_law : FnScope ["script", "letters", "rows", "value", "some", "machine", "late", "wrong", "thing"] ["script"] (defScope s_law) := ⟨rfl, rfl, rfl, by decide +kernel, rfl, by decide +kernel, by decide +kernel⟩
abbrev s_BadMachine_init : Stmt := inClass (top 3) 0
/-- a def of the module: where it stands, its name's value, how its arguments are bound -/
structure FF (K : PySem.W.Frag) (mg : Str → Option Value) (x : Str) (st : Stmt) (f : Addr) (fd : FuncData) (ps : List Str) : Prop where
  F : Fun K x x st f fd
  g : mg x = some (.ref f)
  b : Binds K fd ps []
structure FM (K : PySem.W.Frag) (x q : Str) (st : Stmt) (f : Addr) (fd : FuncData) (ps : List Str) : Prop where
  F : Fun K x q st f fd
  b : Binds K fd ps []
abbrev v_SIGNS : V := .str "ABCDEFGHIJKLMNOPQRSTUVWXYZ_abcdefghijklmnopqrstuvwxyz"
abbrev v_MOST_STATES : V := .int 6
abbrev v_MOST_KEPT : V := .int 5
structure Ad where
  a_is_whole : Addr
  d_is_whole : FuncData
  a_is_letters : Addr
  d_is_letters : FuncData
  a_is_value : Addr
  d_is_value : FuncData
  a_check_letters : Addr
  d_check_letters : FuncData
  a_check_value : Addr
  d_check_value : FuncData
  a_Machine_init : Addr
  d_Machine_init : FuncData
  a_Machine_eq : Addr
  d_Machine_eq : FuncData
  a_Machine_len : Addr
  d_Machine_len : FuncData
  a_Machine_letters : Addr
  d_Machine_letters : FuncData
  a_Machine_rows : Addr
  d_Machine_rows : FuncData
  a_Machine_turn : Addr
  d_Machine_turn : FuncData
  a_Machine_made : Addr
  d_Machine_made : FuncData
  a_Machine_state_after : Addr
  d_Machine_state_after : FuncData
  a_Machine__after : Addr
  d_Machine__after : FuncData
  a_check_rows : Addr
  d_check_rows : FuncData
  a_is_row : Addr
  d_is_row : FuncData
  a_is_turn : Addr
  d_is_turn : FuncData
  a_copying_row : Addr
  d_copying_row : FuncData
  a_plain : Addr
  d_plain : FuncData
  a_mapped : Addr
  d_mapped : FuncData
  a_cut : Addr
  d_cut : FuncData
  a_stripped : Addr
  d_stripped : FuncData
  a_squeezed : Addr
  d_squeezed : FuncData
  a_copying_turns : Addr
  d_copying_turns : FuncData
  a_compare : Addr
  d_compare : FuncData
  a_law_number : Addr
  d_law_number : FuncData
  a_law_letters : Addr
  d_law_letters : FuncData
  a_law_rows : Addr
  d_law_rows : FuncData
  a_law_value : Addr
  d_law_value : FuncData
  a_law_turn : Addr
  d_law_turn : FuncData
  a_law_ends : Addr
  d_law_ends : FuncData
  a_law_raised : Addr
  d_law_raised : FuncData
  a_law_ready_right : Addr
  d_law_ready_right : FuncData
  a_law_bent : Addr
  d_law_bent : FuncData
  a_law_order_right : Addr
  d_law_order_right : FuncData
  a_law : Addr
  d_law : FuncData
  C : Addr
  pr_letters : Addr
  pr_rows : Addr
  X_BadLetters : Addr
  X_BadValue : Addr
  X_BadMachine : Addr
  a_BadMachine_init : Addr
  d_BadMachine_init : FuncData
  cL : Addr
  tL : Addr
  t_SIGNS : Tok
  t_MOST_STATES : Tok
  t_MOST_KEPT : Tok
structure Txt (P : Program) (K : PySem.W.Frag) (mg : Str → Option Value) (A : Ad) : Prop where
  f_is_whole : FF K mg "is_whole" s_is_whole A.a_is_whole A.d_is_whole ["thing"]
  f_is_letters : FF K mg "is_letters" s_is_letters A.a_is_letters A.d_is_letters ["thing"]
  f_is_value : FF K mg "is_value" s_is_value A.a_is_value A.d_is_value ["letters", "thing"]
  f_check_letters : FF K mg "check_letters" s_check_letters A.a_check_letters A.d_check_letters ["letters"]
  f_check_value : FF K mg "check_value" s_check_value A.a_check_value A.d_check_value ["letters", "value"]
  f_Machine_init : FM K "__init__" "Machine.__init__" s_Machine_init A.a_Machine_init A.d_Machine_init ["self", "letters", "rows"]
  f_Machine_eq : FM K "__eq__" "Machine.__eq__" s_Machine_eq A.a_Machine_eq A.d_Machine_eq ["self", "other"]
  f_Machine_len : FM K "__len__" "Machine.__len__" s_Machine_len A.a_Machine_len A.d_Machine_len ["self"]
  f_Machine_letters : FM K "letters" "Machine.letters" s_Machine_letters A.a_Machine_letters A.d_Machine_letters ["self"]
  f_Machine_rows : FM K "rows" "Machine.rows" s_Machine_rows A.a_Machine_rows A.d_Machine_rows ["self"]
  f_Machine_turn : FM K "turn" "Machine.turn" s_Machine_turn A.a_Machine_turn A.d_Machine_turn ["self", "state", "letter"]
  f_Machine_made : FM K "made" "Machine.made" s_Machine_made A.a_Machine_made A.d_Machine_made ["self", "value"]
  f_Machine_state_after : FM K "state_after" "Machine.state_after" s_Machine_state_after A.a_Machine_state_after A.d_Machine_state_after ["self", "value"]
  f_Machine__after : FM K "_after" "Machine._after" s_Machine__after A.a_Machine__after A.d_Machine__after ["self", "value"]
  f_check_rows : FF K mg "check_rows" s_check_rows A.a_check_rows A.d_check_rows ["letters", "rows"]
  f_is_row : FF K mg "is_row" s_is_row A.a_is_row A.d_is_row ["letters", "many", "row"]
  f_is_turn : FF K mg "is_turn" s_is_turn A.a_is_turn A.d_is_turn ["letters", "many", "turn"]
  f_copying_row : FF K mg "copying_row" s_copying_row A.a_copying_row A.d_copying_row ["letters", "state"]
  f_plain : FF K mg "plain" s_plain A.a_plain A.d_plain ["letters"]
  f_mapped : FF K mg "mapped" s_mapped A.a_mapped A.d_mapped ["letters", "outs"]
  f_cut : FF K mg "cut" s_cut A.a_cut A.d_cut ["letters", "many"]
  f_stripped : FF K mg "stripped" s_stripped A.a_stripped A.d_stripped ["letters", "some"]
  f_squeezed : FF K mg "squeezed" s_squeezed A.a_squeezed A.d_squeezed ["letters", "some"]
  f_copying_turns : FF K mg "copying_turns" s_copying_turns A.a_copying_turns A.d_copying_turns ["letters", "silent"]
  f_compare : FF K mg "compare" s_compare A.a_compare A.d_compare ["letters", "one", "other"]
  f_law_number : FF K mg "_law_number" s_law_number A.a_law_number A.d_law_number ["script", "index"]
  f_law_letters : FF K mg "_law_letters" s_law_letters A.a_law_letters A.d_law_letters ["script", "at"]
  f_law_rows : FF K mg "_law_rows" s_law_rows A.a_law_rows A.d_law_rows ["script", "at", "letters", "most"]
  f_law_value : FF K mg "_law_value" s_law_value A.a_law_value A.d_law_value ["script", "at", "letters", "most"]
  f_law_turn : FF K mg "_law_turn" s_law_turn A.a_law_turn A.d_law_turn ["letters", "rows", "state", "letter"]
  f_law_ends : FF K mg "_law_ends" s_law_ends A.a_law_ends A.d_law_ends ["letters", "rows", "value"]
  f_law_raised : FF K mg "_law_raised" s_law_raised A.a_law_raised A.d_law_raised ["call"]
  f_law_ready_right : FF K mg "_law_ready_right" s_law_ready_right A.a_law_ready_right A.d_law_ready_right ["letters", "value", "some", "many"]
  f_law_bent : FF K mg "_law_bent" s_law_bent A.a_law_bent A.d_law_bent ["seed", "letters", "rows"]
  f_law_order_right : FF K mg "_law_order_right" s_law_order_right A.a_law_order_right A.d_law_order_right ["script", "letters", "value"]
  f_law : FF K mg "law" s_law A.a_law A.d_law ["script"]
  cl : Cls K A.C
  mkC : Mk K A.C A.a_Machine_init
  g_Machine : mg "Machine" = some (.ref A.C)
  iA : PySem.W.findIn K (.ref A.C) "__class__" = some (some (.builtin "object.__class__"))
  iN : PySem.W.specialIn K (.builtin "object.__class__") "__get__" = some (some (.builtin "getset_descriptor.__get__"))
  iT : PySem.W.takesIn K (.builtin "object.__class__") = some true
  iM : PySem.W.mroIn K A.C (.type "object") = some true
  no_letters : NoAttr K A.C "_letters"
  no_rows : NoAttr K A.C "_rows"
  m_eq : Meth K A.C "__eq__" A.a_Machine_eq
  m_len : Meth K A.C "__len__" A.a_Machine_len
  p_letters : PropOf K A.C "letters" A.pr_letters A.a_Machine_letters
  p_rows : PropOf K A.C "rows" A.pr_rows A.a_Machine_rows
  m_turn : Meth K A.C "turn" A.a_Machine_turn
  m_made : Meth K A.C "made" A.a_Machine_made
  m_state_after : Meth K A.C "state_after" A.a_Machine_state_after
  m__after : Meth K A.C "_after" A.a_Machine__after
  neC : PySem.W.findIn K (.ref A.C) "__ne__" = some (some (.builtin "object.__ne__"))
  xX_BadLetters : PySem.W.excIn K A.X_BadLetters [.type "ValueError", .type "Exception", .type "BaseException", .type "object"] "ValueError.__new__" = true
  gX_BadLetters : mg "BadLetters" = some (.ref A.X_BadLetters)
  kX_BadLetters : PySem.W.keepIn K (.ref A.X_BadLetters) = true
  bX_BadLetters : PySem.W.subIn K (.ref A.X_BadLetters) (.type "BaseException") = some true
  tX_BadLetters : PySem.W.typeIn K (.ref A.X_BadLetters) = some (.type "type")
  iX_BadLetters : PySem.W.isClsIn K A.X_BadLetters = true
  sX_BadLetters : PySem.W.subIn K (.ref A.X_BadLetters) (.ref A.X_BadLetters) = some true
  xX_BadValue : PySem.W.excIn K A.X_BadValue [.type "ValueError", .type "Exception", .type "BaseException", .type "object"] "ValueError.__new__" = true
  gX_BadValue : mg "BadValue" = some (.ref A.X_BadValue)
  kX_BadValue : PySem.W.keepIn K (.ref A.X_BadValue) = true
  bX_BadValue : PySem.W.subIn K (.ref A.X_BadValue) (.type "BaseException") = some true
  tX_BadValue : PySem.W.typeIn K (.ref A.X_BadValue) = some (.type "type")
  iX_BadValue : PySem.W.isClsIn K A.X_BadValue = true
  sX_BadValue : PySem.W.subIn K (.ref A.X_BadValue) (.ref A.X_BadValue) = some true
  codeL : A.d_law.code = .ref A.cL
  gX_BadMachine : mg "BadMachine" = some (.ref A.X_BadMachine)
  oB : OexC K A.X_BadMachine
  xB : XfC K A.X_BadMachine
  rB : PySem.W.findIn K (.ref A.X_BadMachine) "row" = some none
  iB : PySem.W.findIn K (.ref A.X_BadMachine) "__init__" = some (some (.ref A.a_BadMachine_init))
  tB : PySem.W.typeIn K (.ref A.a_BadMachine_init) = some (.type "function")
  fB : ∃ (cda cc : Addr) (oc kV doc pm ct : Value) (od an : Option Addr) (osl : Array (Option Value)), A.d_BadMachine_init = PySem.W.ksFn "__init__" "BadMachine.__init__" (defArgs s_BadMachine_init) (defBody s_BadMachine_init) (defScope s_BadMachine_init) .none kV doc pm an (.ref cda) ct cc ∧
    K.lookup A.a_BadMachine_init = some ⟨oc, od, .func (PySem.W.ksFn "__init__" "BadMachine.__init__" (defArgs s_BadMachine_init) (defBody s_BadMachine_init) (defScope s_BadMachine_init) .none kV doc pm an (.ref cda) ct cc), osl⟩ ∧ SupIn P K A.X_BadMachine cda cc "BadMachine.__init__"
  bB : Binds K A.d_BadMachine_init ["self", "row"] []
  eMM : PySem.W.exmOne K (.ref A.X_BadMachine) (.ref A.X_BadMachine) = some true
  eLM : PySem.W.exmOne K (.ref A.X_BadLetters) (.ref A.X_BadMachine) = some false
  eLL : PySem.W.exmOne K (.ref A.X_BadLetters) (.ref A.X_BadLetters) = some true
  eVM : PySem.W.exmOne K (.ref A.X_BadValue) (.ref A.X_BadMachine) = some false
  eVL : PySem.W.exmOne K (.ref A.X_BadValue) (.ref A.X_BadLetters) = some false
  eVV : PySem.W.exmOne K (.ref A.X_BadValue) (.ref A.X_BadValue) = some true
  c_SIGNS : mg "SIGNS" = some (.str "ABCDEFGHIJKLMNOPQRSTUVWXYZ_abcdefghijklmnopqrstuvwxyz" A.t_SIGNS)
  c_MOST_STATES : mg "MOST_STATES" = some (.int 6 A.t_MOST_STATES)
  c_MOST_KEPT : mg "MOST_KEPT" = some (.int 5 A.t_MOST_KEPT)
  n_all : mg "all" = none
  n_bool : mg "bool" = none
  n_call : mg "call" = none
  n_enumerate : mg "enumerate" = none
  n_int : mg "int" = none
  n_isinstance : mg "isinstance" = none
  n_len : mg "len" = none
  n_list : mg "list" = none
  n_min : mg "min" = none
  n_range : mg "range" = none
  n_str : mg "str" = none
  n_sum : mg "sum" = none
  n_super : mg "super" = none
  n_tuple : mg "tuple" = none
end K1
set_option Elab.async false
set_option linter.all false
set_option maxRecDepth 100000
set_option maxHeartbeats 4000000
namespace K1
open PySem PySem.Spec PyProof.Rows L2 FX
section
variable {P : Program} {w : World} {K : PySem.W.Frag} {mg : Str → Option Value} {base : Heap} {A : Ad}
def isWholeD (d : PyData) : Bool := isB "int" d && !isB "bool" d
def sp_is_whole (K : PySem.W.Frag) : Sp := fun vs H Q _ => ∃ (v : V) (d : PyData), vs = [v] ∧ Dp K H v d ∧ Q (.bl (isWholeD d)) H
theorem ok_is_whole (T : Txt P K mg A) : FnOk P w K mg base CX0 1 A.a_is_whole A.d_is_whole ["thing"] (sp_is_whole K) := by
  refine T.f_is_whole.F.ok sc_is_whole (fun vs H Q E h => ?_) (fun cdv Ar outer s H vs Q E hr h => ?_)
  · obtain ⟨v, d, rfl, _⟩ := h
    rfl
  · obtain ⟨v, d, rfl, hd, q⟩ := h
    refine ⟨_, (pss_one (ps_ret (pe_and (pe_callB call_isi (by rfl) T.n_isinstance (by decide +kernel) (pa_cons (pv 0) (pa_cons (pe_bltn (v := .ty "int") (by rfl) T.n_int (by decide +kernel) rfl) pa_nil))) (pe_one (pe_not (pe_callB call_isi (by rfl) T.n_isinstance (by decide +kernel) (pa_cons (pv 0) (pa_cons (pe_bltn (v := .ty "bool") (by rfl) T.n_bool (by decide +kernel) rfl) pa_nil)))))))), ?_⟩
    obtain ⟨t, h1, h2⟩ := Dp.isB hd (c := "int") (by decide)
    obtain ⟨u, h3, h4⟩ := Dp.isB hd (c := "bool") (by decide)
    refine ⟨_, rfl, v, _, t, _, _, rfl, .ty _, h1, h2, _, rfl, ?_⟩
    unfold isWholeD at q
    cases e : FX.isB "int" d with
    | true =>
      rw [e] at q
      exact iteT ⟨_, rfl, v, _, u, _, _, rfl, .ty _, h3, h4, _, rfl, q⟩
    | false =>
      rw [e] at q
      exact iteF q
/-! what is letters -/
def oneOf (x : Str) (c : Nat) : Bool := decide (c ∈ zs signs) && decide (Txt.count x (S [c]) = 1)
def isLetD : PyData → Bool
  | .str x => decide (2 ≤ x.length) && (decide (x.length ≤ 4) && (zs x).all (oneOf x))
  | _ => false
def small0 : PyData → Prop
  | .str x => x.length ≤ 100000
  | _ => True
def sp_is_letters (K : PySem.W.Frag) : Sp := fun vs H Q _ => ∃ (v : V) (d : PyData), vs = [v] ∧ Dp K H v d ∧ small0 d ∧ ∀ H', Same H H' → Q (.bl (isLetD d)) H'
theorem ok_is_letters (T : Txt P K mg A) : FnOk P w K mg base CX0 1 A.a_is_letters A.d_is_letters ["thing"] (sp_is_letters K) := by
  refine T.f_is_letters.F.ok sc_is_letters (fun vs H Q E h => ?_) (fun cdv Ar outer s H vs Q E hr h => ?_)
  · obtain ⟨v, d, rfl, _⟩ := h
    rfl
  · obtain ⟨v, d, rfl, hd, hsm, q⟩ := h
    refine ⟨_, (pss_cons (ps_if (PW.pt (pw_or (pt_not (pt_val (pe_callB call_isi (by rfl) T.n_isinstance (by decide +kernel) (pa_cons (pv 0) (pa_cons (pe_bltn (v := .ty "str") (by rfl) T.n_str (by decide +kernel) rfl) pa_nil))))) (pw_or1 (pt_not (pt_chain op_le op_le pe_int (pe_callB call_len_str (by rfl) T.n_len (by decide +kernel) (pa_cons (pv 0) pa_nil)) pe_int))))) (pss_one (ps_ret pe_bl)) pss_nil) (pss_one (ps_ret (pe_callB (cr_all rfl) (by rfl) T.n_all (by decide +kernel) (pa_cons (pe_lc (own := [("sign", 1)]) (g := (gName 1)) (tt := tYes) (by rfl) sc_is_letters.nd (pi_str (pv 0)) (blkOk_by (own := [("sign", 1)]) (N := ["thing", "sign"]) (sc := defScope s_is_letters) (by decide +kernel)) (fun _ _ _ _ _ => (pg_name (i := 1) sc_is_letters.nd rfl (Or.inl rfl))) (fun _ _ _ _ _ => pts_nil) (fun _ _ _ _ _ => by exact (pe_and (pe_cmpR op_in_sign (pv 1) (pe_glob (v := v_SIGNS) rfl T.c_SIGNS ⟨_, rfl⟩) rfl) (pe_one (pe_cmpR op_eq (pe_m1 PySem.F.slot_str_count PySem.F.type_str_count mt_count (pv 0) (pv 1)) pe_int (nomark _)))))) pa_nil))))), ?_⟩
    obtain ⟨t, h1, h2⟩ := Dp.isB hd (c := "str") (by decide)
    refine ⟨_, rfl, _, _, t, _, _, rfl, .ty _, h1, h2, _, rfl, ?_⟩
    cases hd with
    | str x =>
      have hx : x.length ≤ 100000 := hsm
      refine iteF ⟨_, rfl, x, rfl, Nat.le_trans hx (by decide), _, _, rfl, rfl, _, rfl, ?_⟩
      by_cases l2 : 2 ≤ x.length
      · rw [if_pos (decide_eq_true (by omega))]
        refine ⟨_, _, rfl, rfl, _, rfl, ?_⟩
        by_cases l4 : x.length ≤ 4
        · rw [show decide ((x.length : Int) ≤ 4) = true from decide_eq_true (by omega)]
          refine iteF ⟨_, rfl, x, rfl, fun D hD => ?_⟩
          refine lc_rel walk_str (fun j v _ => ∃ c, (zs x)[j]? = some c ∧ v = .bl (oneOf x c)) (fun _ _ _ _ _ h => h) hD (by show x.length < _; exact Nat.lt_of_le_of_lt l4 (by decide)) (fun _ _ => trivial) ?_ ?_
          · rintro i y H1 H2 hi sm ⟨o, hd⟩ ⟨rfl, c, hc, rfl⟩ kk
            refine ⟨rfl, ?_⟩
            unfold tYes
            refine iteT ⟨_, rfl, c, _, rfl, rfl, _, rfl, ?_⟩
            have fin : kk = kk := rfl
            by_cases e1 : c ∈ zs signs
            · rw [show decide (c ∈ (Str.ofString "ABCDEFGHIJKLMNOPQRSTUVWXYZ_abcdefghijklmnopqrstuvwxyz").cps.toList) = true from decide_eq_true e1]
              refine iteT ⟨_, rfl, ⟨_, rfl⟩, _, rfl, x, _, rfl, rfl, rfl, kk _ _ (Same.refl _) ⟨c, str_at hc, ?_⟩⟩
              unfold oneOf
              rw [decide_eq_true e1, Bool.true_and]
              congr 1
              exact decide_eq_decide.mpr ⟨fun h => V.int.inj h, fun h => congrArg V.int h⟩
            · rw [show decide (c ∈ (Str.ofString "ABCDEFGHIJKLMNOPQRSTUVWXYZ_abcdefghijklmnopqrstuvwxyz").cps.toList) = false from decide_eq_false e1]
              refine iteF (kk _ _ (Same.refl _) ⟨c, str_at hc, ?_⟩)
              unfold oneOf
              rw [decide_eq_false e1, Bool.false_and]
          · intro H1 ys sm hx1 hn1 hv
            have e1 : ys = ((zs x).map (oneOf x)).map V.bl := by
              refine List.ext_getElem? fun j => ?_
              rw [List.map_map, List.getElem?_map]
              cases h : ys[j]? with
              | none =>
                have q1 : ys.length ≤ j := List.getElem?_eq_none_iff.mp h
                rw [List.getElem?_eq_none (by rw [zs_length]; have : ys.length = x.length := hn1; omega)]
                rfl
              | some v =>
                obtain ⟨c, h1, h2⟩ := hv j v h
                rw [h1, h2]
                rfl
            refine ⟨D, _, rfl, .inl (.inl (by rw [hx1, e1])), ?_⟩
            have := q _ sm
            rw [show isLetD (.str x) = ((zs x).map (oneOf x)).all id by
              show (decide (2 ≤ x.length) && (decide (x.length ≤ 4) && _)) = _
              rw [decide_eq_true l2, decide_eq_true l4, Bool.true_and, Bool.true_and, List.all_map]
              rfl] at this
            exact this
        · rw [show decide ((x.length : Int) ≤ 4) = false from decide_eq_false (by omega)]
          refine iteT ?_
          have := q _ (Same.refl _)
          rwa [show isLetD (.str x) = false by show (_ && (decide (x.length ≤ 4) && _)) = _; rw [decide_eq_false l4, Bool.false_and, Bool.and_false]] at this
      · rw [if_neg (by simp; omega)]
        refine ⟨_, rfl, iteT ?_⟩
        have := q _ (Same.refl _)
        rwa [show isLetD (.str x) = false by show (decide (2 ≤ x.length) && _) = _; rw [decide_eq_false l2, Bool.false_and]] at this
    | non => exact iteT (q _ (Same.refl _))
    | bl b => exact iteT (q _ (Same.refl _))
    | int i => exact iteT (q _ (Same.refl _))
    | lst hs ha => exact iteT (q _ (Same.refl _))
    | tup hs ha => exact iteT (q _ (Same.refl _))
theorem l8_let : ∀ z ∈ L8, isLetD (.str z) = true := by decide +kernel
/-! values -/
def isValD (z : Str) : PyData → Bool
  | .str x => (zs x).all fun c => decide (c ∈ zs z)
  | _ => false
def small : PyData → Prop
  | .str x => x.length ≤ 100000
  | _ => True
def sp_is_value (K : PySem.W.Frag) : Sp := fun vs H Q _ => ∃ (z : Str) (v : V) (d : PyData), vs = [.str z, v] ∧ Dp K H v d ∧ small d ∧ ∀ H', Same H H' → Q (.bl (isValD z d)) H'
theorem ok_is_value (T : Txt P K mg A) : FnOk P w K mg base CX0 1 A.a_is_value A.d_is_value ["letters", "thing"] (sp_is_value K) := by
  refine T.f_is_value.F.ok sc_is_value (fun vs H Q E h => ?_) (fun cdv Ar outer s H vs Q E hr h => ?_)
  · obtain ⟨z, v, d, rfl, _⟩ := h
    rfl
  · obtain ⟨z, v, d, rfl, hd, hsm, q⟩ := h
    refine ⟨_, (pss_one (ps_ret (pe_and (pe_callB call_isi (by rfl) T.n_isinstance (by decide +kernel) (pa_cons (pv 1) (pa_cons (pe_bltn (v := .ty "str") (by rfl) T.n_str (by decide +kernel) rfl) pa_nil))) (pe_one (pe_callB (cr_all rfl) (by rfl) T.n_all (by decide +kernel) (pa_cons (pe_lc (own := [("sign", 2)]) (g := (gName 2)) (tt := tYes) (by rfl) sc_is_value.nd (pi_str (pv 1)) (blkOk_by (own := [("sign", 2)]) (N := ["letters", "thing", "sign"]) (sc := defScope s_is_value) (by decide +kernel)) (fun _ _ _ _ _ => (pg_name (i := 2) sc_is_value.nd rfl (Or.inl rfl))) (fun _ _ _ _ _ => pts_nil) (fun _ _ _ _ _ => by exact (pe_cmpR op_in_sign (pv 2) (pv 0) rfl))) pa_nil)))))), ?_⟩
    obtain ⟨t, h1, h2⟩ := Dp.isB hd (c := "str") (by decide)
    refine ⟨_, rfl, _, _, t, _, _, rfl, .ty _, h1, h2, _, rfl, ?_⟩
    cases hd with
    | str x =>
      refine iteT ⟨_, rfl, x, rfl, fun D hD => ?_⟩
      have hx : x.length ≤ 100000 := hsm
      refine lc_rel walk_str (fun j v _ => ∃ c, (zs x)[j]? = some c ∧ v = .bl (decide (c ∈ zs z))) (fun _ _ _ _ _ h => h) hD (by show x.length < _; exact Nat.lt_of_le_of_lt hx (by decide)) (fun _ _ => trivial) ?_ ?_
      · rintro i y H1 H2 hi sm ⟨o, hd⟩ ⟨rfl, c, hc, rfl⟩ kk
        refine ⟨rfl, ?_⟩
        unfold tYes
        refine iteT ⟨_, rfl, _, rfl, c, _, rfl, rfl, kk _ _ (Same.refl _) ⟨c, ?_, rfl⟩⟩
        have := hc
        simpa [zs] using this
      · intro H1 xs sm hx1 hn hv
        have e1 : xs = ((zs x).map fun c => decide (c ∈ zs z)).map V.bl := by
          refine List.ext_getElem? fun j => ?_
          rw [List.map_map, List.getElem?_map]
          cases e : xs[j]? with
          | none =>
            have q1 : xs.length ≤ j := List.getElem?_eq_none_iff.mp e
            have q2 : (zs x).length ≤ j := by rw [zs_length]; have : xs.length = x.length := hn; omega
            rw [List.getElem?_eq_none q2]
            rfl
          | some v =>
            obtain ⟨c, h1, h2⟩ := hv j v e
            rw [h1, h2]
            rfl
        refine ⟨D, _, rfl, .inl (.inl (by rw [hx1, e1])), ?_⟩
        have e2 : ((zs x).map fun c => decide (c ∈ zs z)).all id = isValD z (.str x) := by
          rw [List.all_map]
          rfl
        rw [e2]
        exact q _ sm
    | non => exact iteF (q _ (Same.refl _))
    | bl b => exact iteF (q _ (Same.refl _))
    | int i => exact iteF (q _ (Same.refl _))
    | lst hs ha => exact iteF (q _ (Same.refl _))
    | tup hs ha => exact iteF (q _ (Same.refl _))
theorem passE {P : Program} {w : World} {K : PySem.W.Frag} {mg : Str → Option Value} {base : Heap} {N : List Str} {qual : Str} {scope : Scope} {f : Addr} {cd : Value} {A : Around} {outer : List Env} {s : Shared} {H : Hp} {E : XK} :
    Passes (L2.CX P w) (cxOf (L2.CX P w) P w K mg base N qual scope f cd A outer s H E) E := passes_call (takes_of rfl rfl rfl rfl) fun _ _ _ _ h => h
def sp_check_letters (K : PySem.W.Frag) (A : Ad) : Sp := fun vs H Q E => ∃ (v : V) (d : PyData), vs = [v] ∧ Dp K H v d ∧ small0 d ∧ (isLetD d = true → ∀ H', Same H H' → Q .non H') ∧ (isLetD d = false → ∀ H', Same H H' → E (.ref A.X_BadLetters) none H')
theorem ok_check_letters (T : Txt P K mg A) : FnOk P w K mg base (L2.CX P w) 2 A.a_check_letters A.d_check_letters ["letters"] (sp_check_letters K A) := by
  refine T.f_check_letters.F.okX sc_check_letters (fun vs H Q E h => ?_) (fun cdv Ar outer s H vs Q E hr h => ?_)
  · obtain ⟨v, d, rfl, _⟩ := h
    rfl
  · obtain ⟨v, d, rfl, hd, hsm, q, qe⟩ := h
    refine ⟨_, (pss_one (ps_if (pt_not (pt_val (pe_call (ok_is_letters T) (hr.mono (by decide)) (by rfl) T.f_is_letters.g T.f_is_letters.F.kp T.f_is_letters.b .nil pass0 (pa_cons (pv 0) pa_nil)))) (pss_one (ps_raise rfl (takes_of rfl rfl rfl rfl) (pmk_ownA PySem.F.excBase_ValueError T.xX_BadLetters T.gX_BadLetters T.kX_BadLetters (raises_own T.bX_BadLetters T.tX_BadLetters) rfl (by exact (pa_cons pe_str pa_nil))))) pss_nil)), ?_⟩
    refine ⟨_, rfl, v, d, rfl, hd, hsm, fun H1 s1 => ⟨_, rfl, ?_⟩⟩
    cases h : isLetD d with
    | true => exact iteF (q h _ s1)
    | false => exact iteT ⟨by decide, qe h _ s1⟩
theorem isVal_of {z x : Str} (h : ∀ c ∈ zs x, c ∈ zs z) : isValD z (.str x) = true := by
  show (zs x).all _ = true
  rw [List.all_eq_true]
  exact fun c hc => decide_eq_true (h c hc)
def sp_check_value (K : PySem.W.Frag) (A : Ad) : Sp := fun vs H Q E => ∃ (z : Str) (v : V) (d : PyData), vs = [.str z, v] ∧ Dp K H v d ∧ small d ∧ (isValD z d = true → ∀ H', Same H H' → Q .non H') ∧ (isValD z d = false → ∀ H', Same H H' → E (.ref A.X_BadValue) none H')
theorem ok_check_value (T : Txt P K mg A) : FnOk P w K mg base (L2.CX P w) 2 A.a_check_value A.d_check_value ["letters", "value"] (sp_check_value K A) := by
  refine T.f_check_value.F.okX sc_check_value (fun vs H Q E h => ?_) (fun cdv Ar outer s H vs Q E hr h => ?_)
  · obtain ⟨z, v, d, rfl, _⟩ := h
    rfl
  · obtain ⟨z, v, d, rfl, hd, hsm, q, qe⟩ := h
    refine ⟨_, (pss_one (ps_if (pt_not (pt_val (pe_call (ok_is_value T) (hr.mono (by decide)) (by rfl) T.f_is_value.g T.f_is_value.F.kp T.f_is_value.b .nil pass0 (pa_cons (pv 0) (pa_cons (pv 1) pa_nil))))) (pss_one (ps_raise rfl (takes_of rfl rfl rfl rfl) (pmk_ownA PySem.F.excBase_ValueError T.xX_BadValue T.gX_BadValue T.kX_BadValue (raises_own T.bX_BadValue T.tX_BadValue) rfl (by exact (pa_cons pe_str pa_nil))))) pss_nil)), ?_⟩
    refine ⟨_, rfl, _, rfl, z, v, d, rfl, hd, hsm, fun H1 s1 => ⟨_, rfl, ?_⟩⟩
    cases h : isValD z d with
    | true => exact iteF (q h _ s1)
    | false => exact iteT ⟨by decide, qe h _ s1⟩
/-! turns, rows -/
def inB (m : Int) : PyData → Bool
  | .int i => decide (0 ≤ i) && decide (i < m)
  | _ => false
def len1 : PyData → Bool
  | .str x => decide (x.length ≤ 1)
  | _ => false
def isTurnD (z : Str) (m : Int) : PyData → Bool
  | .tuple [s, o] => inB m s && (isValD z o && len1 o)
  | _ => false
def smallT : PyData → Prop
  | .tuple [_, o] => small o
  | _ => True
theorem inB_whole {m : Int} {d : PyData} (h : isWholeD d = false) : inB m d = false := by
  cases d <;> first | rfl | (exact absurd h (by decide)) | (simp [isWholeD, isB] at h)
def sp_is_turn (K : PySem.W.Frag) : Sp := fun vs H Q _ => ∃ (z : Str) (m : Int) (v : V) (d : PyData), vs = [.str z, .int m, v] ∧ Dp K H v d ∧ smallT d ∧ ∀ H', Same H H' → Q (.bl (isTurnD z m d)) H'
theorem ok_is_turn (T : Txt P K mg A) : FnOk P w K mg base CX0 2 A.a_is_turn A.d_is_turn ["letters", "many", "turn"] (sp_is_turn K) := by
  refine T.f_is_turn.F.ok sc_is_turn (fun vs H Q E h => ?_) (fun cdv Ar outer s H vs Q E hr h => ?_)
  · obtain ⟨z, m, v, d, rfl, _⟩ := h
    rfl
  · obtain ⟨z, m, v, d, rfl, hd, hsm, q⟩ := h
    refine ⟨_, (pss_cons (ps_if (PW.pt (pw_or (pt_not (pt_val (pe_callB call_isi (by rfl) T.n_isinstance (by decide +kernel) (pa_cons (pv 2) (pa_cons (pe_bltn (v := .ty "tuple") (by rfl) T.n_tuple (by decide +kernel) rfl) pa_nil))))) (pw_or1 (pt_cmpR op_ne (pe_callB call_len_seq (by rfl) T.n_len (by decide +kernel) (pa_cons (pv 2) pa_nil)) pe_int (nomark _))))) (pss_one (ps_ret pe_bl)) pss_nil) (pss_cons (ps_asg (pv 2) (pg_tup (by rfl) (pgs_cons (pg_name (i := 3) sc_is_turn.nd rfl (Or.inl rfl)) (pgs_cons (pg_name (i := 4) sc_is_turn.nd rfl (Or.inl rfl)) pgs_nil)))) (pss_cons (ps_if (PW.pt (pw_or (pt_not (pt_val (pe_call (ok_is_whole T) (hr.mono (by decide)) (by rfl) T.f_is_whole.g T.f_is_whole.F.kp T.f_is_whole.b .nil pass0 (pa_cons (pv 3) pa_nil)))) (pw_or1 (pt_not (pt_chain op_le op_lt pe_int (pv 3) (pv 1)))))) (pss_one (ps_ret pe_bl)) pss_nil) (pss_one (ps_ret (pe_and (pe_call (ok_is_value T) (hr.mono (by decide)) (by rfl) T.f_is_value.g T.f_is_value.F.kp T.f_is_value.b .nil pass0 (pa_cons (pv 0) (pa_cons (pv 4) pa_nil))) (pe_one (pe_cmpR op_le (pe_callB call_len_str (by rfl) T.n_len (by decide +kernel) (pa_cons (pv 4) pa_nil)) pe_int (nomark _))))))))), ?_⟩
    obtain ⟨t, h1, h2⟩ := Dp.isB hd (c := "tuple") (by decide)
    refine ⟨_, rfl, _, _, t, _, _, rfl, .ty _, h1, h2, _, rfl, ?_⟩
    cases hd with
    | tup hs ha =>
      rename_i a xs ds
      refine iteF ⟨_, rfl, a, xs, rfl, .inr hs, rfl, _, rfl, ?_⟩
      have hl := DpAll.len ha
      match ds, xs, hl, ha, hsm with
      | [], [], _, _, _ => exact iteT (q _ (Same.refl _))
      | [_], [_], _, _, _ => exact iteT (q _ (Same.refl _))
      | _ :: _ :: _ :: _, x1 :: x2 :: x3 :: xr, _, _, _ =>
        have e : (!decide (V.int (((x1 :: x2 :: x3 :: xr).length : Nat) : Int) = V.int 2)) = true := by
          simp
          omega
        rw [e]
        exact iteT (q _ (Same.refl _))
      | [ds1, do1], [s, o], _, .cons h3 (.cons h4 .nil), hsm =>
        refine iteF ⟨_, rfl, a, _, rfl, hs, rfl, _, _, rfl, _, _, rfl, rfl, ?_⟩
        refine ⟨_, rfl, _, ds1, rfl, h3, _, rfl, ?_⟩
        show (if (!isWholeD ds1) = true then _ else _)
        have qf : ∀ H', Same H H' → inB m ds1 = false → Q (.bl false) H' := fun H' s' e => by
          have q1 := q H' s'
          rw [show isTurnD z m (.tuple [ds1, do1]) = false by simp [isTurnD, e]] at q1
          exact q1
        cases ew : isWholeD ds1 with
        | false => exact iteT (qf _ (Same.refl _) (inB_whole ew))
        | true =>
          refine iteF ?_
          cases h3 with
          | int i =>
            refine ⟨_, rfl, 0, i, rfl, rfl, _, rfl, ?_⟩
            by_cases h0 : 0 ≤ i
            · rw [if_pos (decide_eq_true h0)]
              refine ⟨_, rfl, i, m, rfl, rfl, _, rfl, ?_⟩
              by_cases hm : i < m
              · rw [show decide (i < m) = true from decide_eq_true hm]
                refine iteF ⟨_, rfl, _, rfl, z, _, do1, rfl, h4, hsm, fun H1 s1 => ⟨_, rfl, ?_⟩⟩
                have q1 : ∀ H', Same H H' → Q (.bl (isValD z do1 && len1 do1)) H' := fun H' s' => by
                  have q2 := q H' s'
                  rw [show isTurnD z m (.tuple [.int i, do1]) = (isValD z do1 && len1 do1) by simp [isTurnD, inB, h0, hm]] at q2
                  exact q2
                cases ev : isValD z do1 with
                | false =>
                  rw [ev] at q1
                  exact iteF (q1 _ s1)
                | true =>
                  refine iteT ?_
                  cases h4 with
                  | str x =>
                    have hx : x.length ≤ 100000 := hsm
                    refine ⟨_, rfl, x, rfl, Nat.le_trans hx (by decide), _, _, rfl, rfl, ?_⟩
                    have q3 := q1 _ s1
                    rw [ev] at q3
                    have e5 : decide (((x.length : Nat) : Int) ≤ 1) = len1 (.str x) := by
                      show _ = decide (x.length ≤ 1)
                      by_cases h : x.length ≤ 1
                      · rw [decide_eq_true h, decide_eq_true (by omega)]
                      · rw [decide_eq_false h, decide_eq_false (by omega)]
                    show Q (.bl (decide (((x.length : Nat) : Int) ≤ 1))) H1
                    rw [e5]
                    exact q3
                  | non => exact absurd ev (by simp [isValD])
                  | bl b => exact absurd ev (by simp [isValD])
                  | int j => exact absurd ev (by simp [isValD])
                  | lst hs ha => exact absurd ev (by simp [isValD])
                  | tup hs ha => exact absurd ev (by simp [isValD])
              · rw [show decide (i < m) = false from decide_eq_false hm]
                exact iteT (qf _ (Same.refl _) (by simp [inB, hm]))
            · rw [if_neg (by simp [h0])]
              exact ⟨_, rfl, iteT (qf _ (Same.refl _) (by simp [inB, h0]))⟩
          | non => exact absurd ew (by decide)
          | bl b => simp [isWholeD, FX.isB] at ew
          | str x => simp [isWholeD, FX.isB] at ew
          | lst hs ha => simp [isWholeD, FX.isB] at ew
          | tup hs ha => simp [isWholeD, FX.isB] at ew
    | non => exact iteT (q _ (Same.refl _))
    | bl b => exact iteT (q _ (Same.refl _))
    | int i => exact iteT (q _ (Same.refl _))
    | lst hs ha => exact iteT (q _ (Same.refl _))
    | str x => exact iteT (q _ (Same.refl _))
def isRowD (z : Str) (m : Int) : PyData → Bool
  | .tuple ts => decide (ts.length = z.length) && ts.all (isTurnD z m)
  | _ => false
def smallR : PyData → Prop
  | .tuple ts => ts.length ≤ 100000 ∧ ∀ t ∈ ts, smallT t
  | _ => True
def sp_is_row (K : PySem.W.Frag) : Sp := fun vs H Q _ => ∃ (z : Str) (m : Int) (v : V) (d : PyData), vs = [.str z, .int m, v] ∧ z.length ≤ 100 ∧ Dp K H v d ∧ smallR d ∧ ∀ H', Same H H' → Q (.bl (isRowD z m d)) H'
theorem ok_is_row (T : Txt P K mg A) : FnOk P w K mg base CX0 3 A.a_is_row A.d_is_row ["letters", "many", "row"] (sp_is_row K) := by
  refine T.f_is_row.F.ok sc_is_row (fun vs H Q E h => ?_) (fun cdv Ar outer s H vs Q E hr h => ?_)
  · obtain ⟨z, m, v, d, rfl, _⟩ := h
    rfl
  · obtain ⟨z, m, v, d, rfl, hz, hd, hsm, q⟩ := h
    refine ⟨_, (pss_cons (ps_if (PW.pt (pw_or (pt_not (pt_val (pe_callB call_isi (by rfl) T.n_isinstance (by decide +kernel) (pa_cons (pv 2) (pa_cons (pe_bltn (v := .ty "tuple") (by rfl) T.n_tuple (by decide +kernel) rfl) pa_nil))))) (pw_or1 (pt_cmpR op_ne (pe_callB call_len_seq (by rfl) T.n_len (by decide +kernel) (pa_cons (pv 2) pa_nil)) (pe_callB call_len_str (by rfl) T.n_len (by decide +kernel) (pa_cons (pv 0) pa_nil)) (nomark _))))) (pss_one (ps_ret pe_bl)) pss_nil) (pss_one (ps_ret (pe_callB (cr_all rfl) (by rfl) T.n_all (by decide +kernel) (pa_cons (pe_lc (own := [("turn", 3)]) (g := (gName 3)) (tt := tYes) (by rfl) sc_is_row.nd (pi_tup (pv 2)) (blkOk_by (own := [("turn", 3)]) (N := ["letters", "many", "row", "turn"]) (sc := defScope s_is_row) (by decide +kernel)) (fun _ _ _ _ _ => (pg_name (i := 3) sc_is_row.nd rfl (Or.inl rfl))) (fun _ _ _ _ _ => pts_nil) (fun _ _ _ _ _ => by exact (pe_call (ok_is_turn T) (hr.mono (by decide)) (by rfl) T.f_is_turn.g T.f_is_turn.F.kp T.f_is_turn.b .nil pass0 (pa_cons (pv 0) (pa_cons (pv 1) (pa_cons (pv 3) pa_nil)))))) pa_nil))))), ?_⟩
    obtain ⟨t, h1, h2⟩ := Dp.isB hd (c := "tuple") (by decide)
    refine ⟨_, rfl, _, _, t, _, _, rfl, .ty _, h1, h2, _, rfl, ?_⟩
    cases hd with
    | tup hs ha =>
      rename_i a xs ds
      have hl := DpAll.len ha
      obtain ⟨hb, hsm⟩ : ds.length ≤ 100000 ∧ ∀ t ∈ ds, smallT t := hsm
      refine iteF ⟨_, rfl, a, xs, rfl, .inr hs, _, rfl, z, rfl, Nat.le_trans hz (by decide), rfl, _, rfl, ?_⟩
      by_cases hn : ds.length = z.length
      · rw [show (!decide (V.int (xs.length : Int) = V.int (z.length : Int))) = false by rw [hl, hn]; simp]
        refine iteF ⟨_, rfl, a, rfl, ⟨xs, hs⟩, fun D hD => ?_⟩
        refine lc_rel (walk_tup (xs := xs)) (fun j v _ => ∃ d, ds[j]? = some d ∧ v = .bl (isTurnD z m d)) (fun _ _ _ _ _ h => h) hD (Nat.lt_of_le_of_lt (Nat.le_of_eq hl) (Nat.lt_of_le_of_lt hb (by decide))) (fun H' s' => SqT.same s' hs) ?_ ?_
        · rintro i y H1 H2 hi sm ⟨o, hd⟩ ⟨rfl, hy⟩ kk
          obtain ⟨d, hd1, hd2⟩ := DpAll.get' ha hy
          refine ⟨rfl, ?_⟩
          unfold tYes
          refine iteT ⟨_, rfl, _, rfl, _, rfl, z, m, y, d, rfl, Dp.same sm hd2, hsm d (List.mem_of_getElem? hd1), fun H3 s3 => kk _ _ s3 ⟨d, hd1, rfl⟩⟩
        · intro H1 ys sm hx1 hn1 hv
          have e1 : ys = (ds.map (isTurnD z m)).map V.bl := by
            refine List.ext_getElem? fun j => ?_
            rw [List.map_map, List.getElem?_map]
            cases e : ys[j]? with
            | none =>
              have q1 : ys.length ≤ j := List.getElem?_eq_none_iff.mp e
              rw [List.getElem?_eq_none (by omega)]
              rfl
            | some v =>
              obtain ⟨d, h1, h2⟩ := hv j v e
              rw [h1, h2]
              rfl
          refine ⟨D, _, rfl, .inl (.inl (by rw [hx1, e1])), ?_⟩
          have e2 : (ds.map (isTurnD z m)).all id = isRowD z m (.tuple ds) := by
            show _ = (decide (ds.length = z.length) && ds.all (isTurnD z m))
            rw [List.all_map, decide_eq_true hn]
            rfl
          rw [e2]
          exact q _ sm
      · rw [show (!decide (V.int (xs.length : Int) = V.int (z.length : Int))) = true by rw [hl]; simp; omega]
        refine iteT ?_
        have q1 := q _ (Same.refl _)
        rw [show isRowD z m (.tuple ds) = false by simp [isRowD, hn]] at q1
        exact q1
    | non => exact iteT (q _ (Same.refl _))
    | bl b => exact iteT (q _ (Same.refl _))
    | int i => exact iteT (q _ (Same.refl _))
    | lst hs ha => exact iteT (q _ (Same.refl _))
    | str x => exact iteT (q _ (Same.refl _))
end
end K1
set_option Elab.async false
set_option linter.all false
set_option maxRecDepth 100000
set_option maxHeartbeats 4000000
namespace K1
open PySem PySem.Spec PyProof.Rows L2 FX
section
variable {P : Program} {w : World} {K : PySem.W.Frag} {mg : Str → Option Value} {base : Heap} {A : Ad}
def okRow (v : V) : Prop := v = .non ∨ ∃ i : Nat, i < 7 ∧ v = .int (i : Int)
theorem row_text : ∀ i : Nat, i < 7 → ((Str.empty ++ Str.ofString "not a machine (first wrong row: " ++ Str.ofString (toString ((i : Nat) : Int))).length ≤ 1000 ∧ (Str.empty ++ Str.ofString "not a machine (first wrong row: " ++ Str.ofString (toString ((i : Nat) : Int)) ++ Str.ofString ")").length ≤ 1000) ∧ ((i : Nat) : Int).natAbs.log2 < 1920 := by decide +kernel
theorem ok_BadMachine_init (T : Txt P K mg A) : FnOk P w K mg base CX0 1 A.a_BadMachine_init A.d_BadMachine_init ["self", "row"] (sp_sup A.X_BadMachine okRow "row") := by
  obtain ⟨cda, cc, oc, kV, doc, pm, ct, od, an, osl, e, lk, S⟩ := T.fB
  rw [e]
  refine sup_init (k := 0) (x1 := "self") (x2 := "row") (nm := "row") (ar := ⟨"self", none, _⟩) lk S T.oB T.rB T.n_super rfl rfl rfl (by decide +kernel) (by decide +kernel) (by decide +kernel) (fun y h => ?_) (fun y h => ?_) (by decide +kernel) (by decide +kernel) (by decide +kernel) rfl rfl (by decide +kernel) (by decide +kernel) (by decide +kernel) (by decide +kernel)
    (fun A outer s H E => pa_cons (pe_joined (.cons pe_str (.cons (pe_fmtN (pv 1)) (.cons pe_str .nil)))) pa_nil) (fun v1 v2 H Q hv hq => ?_) (fun env => rfl) (fun env => rfl)
  · exact (by decide +kernel : ∀ p ∈ (defScope s_BadMachine_init).names, p.2 = NameKind.free → p.1 = "__class__") _ (PySem.mem_of_lookup h) rfl
  · exact (by decide +kernel : ∀ p ∈ (defScope s_BadMachine_init).names, p.2 ≠ NameKind.cell) _ (PySem.mem_of_lookup h) rfl
  · have k : (1000 : Nat) ≤ sizeLine := by decide
    refine ⟨_, rfl, by decide +kernel, _, rfl, ?_⟩
    rcases hv with rfl | ⟨i, hi, rfl⟩
    · exact .inl ⟨rfl, _, rfl, Nat.le_trans (by decide +kernel) k, _, rfl, Nat.le_trans (by decide +kernel) k, hq _⟩
    · obtain ⟨⟨h1, h2⟩, h3⟩ := row_text i hi
      exact .inr ⟨i, rfl, h3, _, rfl, Nat.le_trans h1 k, _, rfl, Nat.le_trans h2 k, hq _⟩
end
end K1
set_option Elab.async false
set_option linter.all false
set_option maxRecDepth 100000
set_option maxHeartbeats 4000000
namespace K1
open PySem PySem.Spec PyProof.Rows L2 FX
section
variable {P : Program} {w : World} {K : PySem.W.Frag} {mg : Str → Option Value} {base : Heap} {A : Ad}
theorem bm_make {H1 : Hp} {x : V} {C : Addr} {Q : XK} (hx : okRow x) (q : ∀ dd H', Same H1 H' → H' dd = some (.xd [("row", x)]) → Q (.ref C) (some dd) H') :
    [x].length ≤ 1000 ∧ ∀ a, H1 a = none → sp_sup C okRow "row" (.ref a :: ([x] ++ [])) (upd H1 a (exo a C none)) (fun v H2 => v = .non ∧ ∃ (d : Addr) (fs : List (Str × V)), H2 a = some (exo a C (some d)) ∧ H2 d = some (exd d fs) ∧ H1 d = none ∧ Q (.ref C) (some d) (upd (del H2 a) d (.xd fs))) (fun _ _ _ => False) := by
  refine ⟨by simp, fun a ha => ⟨a, x, rfl, upd_same, hx, fun dx hdx hne => ⟨rfl, dx, [("row", x)], upd_same, ?_, ?_, q dx _ ?_ upd_same⟩⟩⟩
  · rw [upd_ne hne, upd_same]
  · rw [upd_ne hne] at hdx
    exact hdx
  · intro b o hb
    have h1 : b ≠ a := ne_of_none hb ha
    have h2 : b ≠ dx := ne_of_none hb (by rw [upd_ne hne] at hdx; exact hdx)
    rw [upd_ne h2, del_ne h1, upd_ne h1, upd_ne h2, upd_ne h1]
    exact hb
def badAt (z : Str) (m : Int) (ds : List PyData) : Option Nat := ds.findIdx? fun d => !isRowD z m d
def rowsV (z : Str) : PyData → Option V
  | .tuple ds => if 1 ≤ ds.length ∧ ds.length ≤ 6 then (badAt z ds.length ds).map fun i : Nat => V.int i else some .non
  | _ => some .non
def smallRows : PyData → Prop
  | .tuple ds => ds.length ≤ 100000 ∧ ∀ d ∈ ds, smallR d
  | _ => True
theorem badAt_some {z : Str} {m : Int} {ds : List PyData} {i : Nat} {d : PyData} (h : ds[i]? = some d) (hb : isRowD z m d = false) (hg : ∀ (j : Nat) e, j < i → ds[j]? = some e → isRowD z m e = true) : badAt z m ds = some i := by
  unfold badAt
  rw [List.findIdx?_eq_some_iff_getElem]
  obtain ⟨h1, h2⟩ := List.getElem?_eq_some_iff.mp h
  refine ⟨h1, by rw [h2, hb]; rfl, fun j hj => ?_⟩
  have := hg j ds[j] hj (List.getElem?_eq_getElem _)
  rw [this]
  exact Bool.false_ne_true
theorem badAt_none {z : Str} {m : Int} {ds : List PyData} (hg : ∀ (j : Nat) e, ds[j]? = some e → isRowD z m e = true) : badAt z m ds = none := by
  unfold badAt
  rw [List.findIdx?_eq_none_iff]
  intro d hd
  obtain ⟨j, hj⟩ := List.getElem?_of_mem hd
  rw [hg j d hj]
  rfl
def sp_check_rows (K : PySem.W.Frag) (A : Ad) : Sp := fun vs H Q E => ∃ (z : Str) (v : V) (d : PyData), vs = [.str z, v] ∧ z.length ≤ 100 ∧ Dp K H v d ∧ smallRows d ∧ (rowsV z d = none → ∀ H', Same H H' → Q .non H') ∧
  (∀ x, rowsV z d = some x → ∀ dd H', Same H H' → H' dd = some (.xd [("row", x)]) → E (.ref A.X_BadMachine) (some dd) H')
theorem ok_check_rows (T : Txt P K mg A) : FnOk P w K mg base (L2.CX P w) 4 A.a_check_rows A.d_check_rows ["letters", "rows"] (sp_check_rows K A) := by
  refine T.f_check_rows.F.okX sc_check_rows (fun vs H Q E h => ?_) (fun cdv Ar outer s H vs Q E hr h => ?_)
  · obtain ⟨z, v, d, rfl, _⟩ := h
    rfl
  · obtain ⟨z, v, d, rfl, hz, hd, hsm, q, qe⟩ := h
    refine ⟨_, (pss_cons (ps_if (PW.pt (pw_or (pt_not (pt_val (pe_callB call_isi (by rfl) T.n_isinstance (by decide +kernel) (pa_cons (pv 1) (pa_cons (pe_bltn (v := .ty "tuple") (by rfl) T.n_tuple (by decide +kernel) rfl) pa_nil))))) (pw_or1 (pt_not (pt_chain op_le op_le pe_int (pe_callB call_len_seq (by rfl) T.n_len (by decide +kernel) (pa_cons (pv 1) pa_nil)) (pe_glob (v := v_MOST_STATES) rfl T.c_MOST_STATES ⟨_, rfl⟩)))))) (pss_one (ps_raise rfl (takes_of rfl rfl rfl rfl) (pmk_oex T.oB T.iB T.tB (ok_BadMachine_init T) (hr.mono (by decide)) T.bB .nil pass0 rfl T.gX_BadMachine (by exact (pa_cons pe_non pa_nil))))) pss_nil) (pss_one (ps_for (passes_of rfl) rfl (pi_enumT (by rfl) T.n_enumerate (pa_cons (pv 1) pa_nil)) (pg_tup (by rfl) (pgs_cons (pg_name (i := 2) sc_check_rows.nd rfl (Or.inl rfl)) (pgs_cons (pg_name (i := 3) sc_check_rows.nd rfl (Or.inl rfl)) pgs_nil))) (pss_one (ps_if (pt_not (pt_val (pe_call (ok_is_row T) (hr.mono (by decide)) (by rfl) T.f_is_row.g T.f_is_row.F.kp T.f_is_row.b .nil pass0 (pa_cons (pv 0) (pa_cons (pe_callB call_len_seq (by rfl) T.n_len (by decide +kernel) (pa_cons (pv 1) pa_nil)) (pa_cons (pv 3) pa_nil)))))) (pss_one (ps_raise rfl (takes_of rfl rfl rfl rfl) (pmk_oex T.oB T.iB T.tB (ok_BadMachine_init T) (hr.mono (by decide)) T.bB .nil pass0 rfl T.gX_BadMachine (by exact (pa_cons (pv 2) pa_nil))))) pss_nil))))), ?_⟩
    obtain ⟨t, g1, g2⟩ := Dp.isB hd (c := "tuple") (by decide)
    have none_ : rowsV z d = some .non → ∀ H1, Same H H1 → _ := fun e H1 s1 => bm_make (H1 := H1) (C := A.X_BadMachine) (Q := E) (x := .non) (.inl rfl) fun dd H' s' h' => qe _ e dd H' (s1.trans s') h'
    refine ⟨_, rfl, _, _, t, _, _, rfl, .ty _, g1, g2, _, rfl, ?_⟩
    cases hd with
    | tup hs ha =>
      rename_i a xs ds
      have hl := DpAll.len ha
      obtain ⟨hb, hsm⟩ : ds.length ≤ 100000 ∧ ∀ t ∈ ds, smallR t := hsm
      refine iteF ⟨_, rfl, a, xs, rfl, .inr hs, _, _, rfl, rfl, _, rfl, ?_⟩
      by_cases l1 : 1 ≤ ds.length
      · rw [if_pos (decide_eq_true (by omega))]
        refine ⟨_, _, rfl, rfl, _, rfl, ?_⟩
        by_cases l6 : ds.length ≤ 6
        · rw [show decide ((xs.length : Int) ≤ 6) = true from decide_eq_true (by omega)]
          have eV : rowsV z (.tuple ds) = (badAt z ds.length ds).map fun i : Nat => V.int i := if_pos ⟨l1, l6⟩
          refine iteF ⟨_, rfl, a, xs, rfl, hs, ?_⟩
          refine for_it (walk_enumT (xs := xs)) (fun i σ H' => Same H H' ∧ (∀ (j : Nat) e, j < i → ds[j]? = some e → isRowD z ds.length e = true) ∧ ∃ o1 o2, σ = [some (.str z), some (.ref a), o1, o2]) ⟨Same.refl _, fun j e h => absurd h (Nat.not_lt_zero _), _, _, rfl⟩ (fun i σ H' _ h => SqT.same h.1 hs) ?_ ?_
          · rintro i x σ H1 H2 hi ⟨sm, good, o1, o2, rfl⟩ ⟨p, x1, x2, rfl, hp, rfl, hx1, hx2⟩
            obtain rfl : x1 = .int (i : Nat) := by simpa using hx1.symm
            refine ⟨p, _, rfl, .inl (.inl upd_same), rfl, _, _, rfl, x2, _, rfl, rfl, ?_⟩
            have s2 : Same H (upd H1 p (.tup [.int (i : Nat), x2])) := Same.up sm hp
            obtain ⟨d, hd1, hd2⟩ := DpAll.get' ha hx2
            have k1 := hsm d (List.mem_of_getElem? hd1)
            refine ⟨_, rfl, _, rfl, a, xs, rfl, .inr (SqT.same s2 hs), _, rfl, z, _, x2, d, rfl, hz, Dp.same s2 hd2, k1, fun H3 s3 => ⟨_, rfl, ?_⟩⟩
            rw [hl]
            cases hr2 : isRowD z ds.length d with
            | true =>
              refine iteF ⟨s2.trans s3, fun j e hj he => ?_, _, _, rfl⟩
              by_cases hji : j = i
              · subst hji
                rw [hd1] at he
                cases he
                exact hr2
              · exact good j e (by omega) he
            | false =>
              refine iteT ⟨_, rfl, bm_make (C := A.X_BadMachine) (Q := E) (.inr ⟨i, by omega, rfl⟩) fun dd H' s' h' => qe _ ?_ dd H' ((s2.trans s3).trans s') h'⟩
              rw [eV, badAt_some hd1 hr2 good]
              rfl
          · rintro σ H2 ⟨sm, good, o1, o2, rfl⟩
            refine q ?_ _ sm
            rw [eV, badAt_none fun j e he => good j e (by rw [hl]; exact (List.getElem?_eq_some_iff.mp he).1) he]
            rfl
        · rw [show decide ((xs.length : Int) ≤ 6) = false from decide_eq_false (by omega)]
          exact iteT (none_ (if_neg fun h => l6 h.2) _ (Same.refl _))
      · rw [if_neg (by simp; omega)]
        exact ⟨_, rfl, iteT (none_ (if_neg fun h => l1 h.1) _ (Same.refl _))⟩
    | non => exact iteT (none_ rfl _ (Same.refl _))
    | bl b => exact iteT (none_ rfl _ (Same.refl _))
    | int i => exact iteT (none_ rfl _ (Same.refl _))
    | lst hs ha => exact iteT (none_ rfl _ (Same.refl _))
    | str x => exact iteT (none_ rfl _ (Same.refl _))
end
end K1
set_option Elab.async false
set_option linter.all false
set_option maxRecDepth 100000
set_option maxHeartbeats 4000000
namespace K1
open PySem PySem.Spec PyProof.Rows L2 FX
/-! machines as objects -/
def mfs (z : Str) (r : Addr) : List (Str × V) := [("_letters", .str z), ("_rows", .ref r)]
theorem mfs_put (z : Str) (r : Addr) : putF "_rows" (.ref r) (putF "_letters" (.str z) []) = mfs z r := rfl
theorem mfs_letters (z : Str) (r : Addr) : (mfs z r).lookup ("_letters" : Str) = some (.str z) := by
  show List.lookup _ [_, _] = _
  rw [List.lookup_cons_self]
theorem mfs_no (z : Str) (r : Addr) {m : Str} (h1 : (m == ("_letters" : Str)) = false) (h2 : (m == ("_rows" : Str)) = false) : (mfs z r).lookup m = none := by
  simp [mfs, List.lookup, h1, h2]
theorem mfs_rows (z : Str) (r : Addr) : (mfs z r).lookup ("_rows" : Str) = some (.ref r) := by
  have h : (("_rows" : Str) == ("_letters" : Str)) = false := by decide +kernel
  simp [mfs, List.lookup, h]
structure IsM (K : PySem.W.Frag) (C : Addr) (H : Hp) (p : Addr) (z : Str) (R : Rows) : Prop where
  at_ : ∃ dx r, H p = some (.ins C dx (mfs z r)) ∧ Dp K H (.ref r) (rowsD R)
  hz : z ∈ L8
  ok : MachOk (zs z) R
  six : R.length ≤ 6
theorem IsM.same {K : PySem.W.Frag} {C : Addr} {H H' : Hp} {p : Addr} {z : Str} {R : Rows} (m : IsM K C H p z R) (s : Same H H') : IsM K C H' p z R := by
  obtain ⟨⟨dx, r, h1, h2⟩, h3, h4, h5⟩ := m
  exact ⟨⟨dx, r, s _ _ h1, Dp.same s h2⟩, h3, h4, h5⟩
theorem l8_le {z : Str} (h : z ∈ L8) : z.length ≤ 100 := Nat.le_trans (l8_len z h).2 (by decide)
/-- rows of a machine pass -/
theorem turn_ok {z : Str} {m : Nat} {t : Nat × List Nat} (h1 : t.1 < m) (h2 : t.2.length ≤ 1) (h3 : ∀ c ∈ t.2, c ∈ zs z) : isTurnD z m (turnD t) = true ∧ smallT (turnD t) := by
  have e1 : (zs (S t.2)) = t.2 := by simp [zs, S]
  have e2 : (S t.2).length = t.2.length := by simp [S, Str.length]
  refine ⟨?_, ?_⟩
  · show (inB m (.int t.1) && (isValD z (.str (S t.2)) && len1 (.str (S t.2)))) = true
    have a1 : inB m (.int t.1) = true := by simp [inB]; omega
    have a2 : isValD z (.str (S t.2)) = true := isVal_of (by rw [e1]; exact h3)
    have a3 : len1 (.str (S t.2)) = true := by simp [len1, e2]; exact h2
    rw [a1, a2, a3]
    rfl
  · show (S t.2).length ≤ 100000
    omega
theorem row_ok {z : Str} {R : Rows} (M : MachOk (zs z) R) (hz : z ∈ L8) {row : List (Nat × List Nat)} (h : row ∈ R) : smallR (rowD row) ∧ isRowD z R.length (rowD row) = true := by
  have hl := M.rows row h
  rw [zs_length] at hl
  refine ⟨⟨?_, ?_⟩, ?_⟩
  · rw [List.length_map]
    have := l8_le hz
    omega
  · intro t ht
    obtain ⟨x, hx, rfl⟩ := List.mem_map.mp ht
    exact (turn_ok (z := z) (M.st row h x hx) (M.one row h x hx) (M.out row h x hx)).2
  · show (decide ((row.map turnD).length = z.length) && (row.map turnD).all (isTurnD z R.length)) = true
    rw [List.length_map, decide_eq_true hl, Bool.true_and, List.all_eq_true]
    intro t ht
    obtain ⟨x, hx, rfl⟩ := List.mem_map.mp ht
    exact (turn_ok (M.st row h x hx) (M.one row h x hx) (M.out row h x hx)).1
section
variable {P : Program} {w : World} {K : PySem.W.Frag} {mg : Str → Option Value} {base : Heap} {A : Ad}
/-- the fields of a machine that is made -/
def mfv (v1 v2 : V) : List (Str × V) := [("_letters", v1), ("_rows", v2)]
def sp_init (K : PySem.W.Frag) (A : Ad) : Sp := fun vs H Q E => ∃ (p dx : Addr) (v1 v2 : V) (d1 d2 : PyData), vs = [.ref p, v1, v2] ∧ H p = some (.ins A.C dx []) ∧ Dp K (hid [p] H) v1 d1 ∧ small0 d1 ∧ Dp K (hid [p] H) v2 d2 ∧ smallRows d2 ∧
  (∀ z, v1 = .str z → isLetD (.str z) = true → rowsV z d2 = none → ∀ H', Same (hid [p] H) (hid [p] H') → H' p = some (.ins A.C dx (mfv v1 v2)) → Q .non H') ∧
  (isLetD d1 = false → ∀ H', Same (hid [p] H) (hid [p] H') → E (.ref A.X_BadLetters) none H') ∧
  (∀ z x, v1 = .str z → isLetD (.str z) = true → rowsV z d2 = some x → ∀ dd H', Same (hid [p] H) (hid [p] H') → H' dd = some (.xd [("row", x)]) → E (.ref A.X_BadMachine) (some dd) H')
theorem let_le {z : Str} (h : isLetD (.str z) = true) : z.length ≤ 4 := by
  have h1 := (Bool.and_eq_true_iff.mp (Bool.and_eq_true_iff.mp (show (_ && (decide (z.length ≤ 4) && _)) = true from h)).2).1
  exact of_decide_eq_true h1
theorem let_str {d : PyData} (h : isLetD d = true) : ∃ z, d = .str z := by
  cases d with
  | str z => exact ⟨z, rfl⟩
  | _ => exact absurd h (by simp [isLetD])
theorem ok_Machine_init (T : Txt P K mg A) : FnOk P w K mg base (L2.CX P w) 5 A.a_Machine_init A.d_Machine_init ["self", "letters", "rows"] (sp_init K A) := by
  refine T.f_Machine_init.F.okX sc_Machine_init (fun vs H Q E h => ?_) (fun cdv Ar outer s H vs Q E hr h => ?_)
  · obtain ⟨p, dx, v1, v2, d1, d2, rfl, _⟩ := h
    rfl
  · obtain ⟨p, dx, v1, v2, d1, d2, rfl, hp, hd1, hs1, hd2, hs2, q, qL, qM⟩ := h
    refine ⟨_, (pss_cons (ps_expr (pe_call (ok_check_letters T) (hr.mono (by decide)) (by rfl) T.f_check_letters.g T.f_check_letters.F.kp T.f_check_letters.b .nil passE (pa_cons (pv 1) pa_nil))) (pss_cons (ps_expr (pe_call (ok_check_rows T) (hr.mono (by decide)) (by rfl) T.f_check_rows.g T.f_check_rows.F.kp T.f_check_rows.b .nil passE (pa_cons (pv 1) (pa_cons (pv 2) pa_nil)))) (pss_cons (ps_fld (pv 0) (pv 1) rfl) (pss_one (ps_fld (pv 0) (pv 2) rfl))))), ?_⟩
    have sm : ∀ {H'}, Same H H' → Same (hid [p] H) (hid [p] H') := fun s => hid_same fun b o _ e => s b o e
    refine ⟨_, rfl, v1, d1, rfl, Dp.same (hid_sub _ _) hd1, hs1, fun hL H1 s1 => ?_, fun hL H1 s1 => qL hL _ (sm s1)⟩
    obtain ⟨z, rfl⟩ := let_str hL
    obtain rfl := Dp.strOf hd1
    refine ⟨_, rfl, _, rfl, z, v2, d2, rfl, Nat.le_trans (let_le hL) (by decide), Dp.same ((hid_sub _ _).trans s1) hd2, hs2, fun hr2 H2 s2 => ?_, fun x hx dd H2 s2 h2 => qM z x rfl hL hx dd _ (sm (s1.trans s2)) h2⟩
    have hp2 := s2 _ _ (s1 _ _ hp)
    refine ⟨_, rfl, _, rfl, p, A.C, dx, _, rfl, hp2, T.cl, T.no_letters, (by show 0 < 1000; decide), ?_⟩
    refine ⟨_, rfl, _, rfl, p, A.C, dx, _, rfl, upd_same, T.cl, T.no_rows, (by show 1 < 1000; decide), ?_⟩
    refine q z rfl hL hr2 _ ?_ upd_same
    rw [hid_upd (by simp), hid_upd (by simp)]
    exact sm (s1.trans s2)
theorem mk_sm {H1 : Hp} {x dx : Addr} {o : HO} (nx : H1 x = none) (ndx : H1 dx = none) : Same H1 (hid [x] (upd (upd H1 dx (.own x)) x o)) := by
  rw [hid_upd (by simp)]
  intro b o e
  rw [hid_out (by simp; exact ne_of_none e nx), upd_ne (ne_of_none e ndx)]
  exact e
/-- Machine(v1, v2) -/
theorem mk_G {H1 : Hp} {v1 v2 : V} {d1 d2 : PyData} {Q : VK} {E : XK} (hd1 : Dp K H1 v1 d1) (hs1 : small0 d1) (hd2 : Dp K H1 v2 d2) (hs2 : smallRows d2)
    (q : ∀ z, v1 = .str z → isLetD (.str z) = true → rowsV z d2 = none → ∀ x dx H2, H1 x = none → Same H1 H2 → H2 x = some (.ins A.C dx (mfv v1 v2)) → Q (.ref x) H2)
    (qL : isLetD d1 = false → ∀ H2, Same H1 H2 → E (.ref A.X_BadLetters) none H2)
    (qM : ∀ z x, v1 = .str z → isLetD (.str z) = true → rowsV z d2 = some x → ∀ dd H2, Same H1 H2 → H2 dd = some (.xd [("row", x)]) → E (.ref A.X_BadMachine) (some dd) H2) :
    ∀ x dx, H1 x = none → H1 dx = none → dx ≠ x → sp_init K A (.ref x :: ([v1, v2] ++ [])) (upd (upd H1 dx (.own x)) x (.ins A.C dx [])) (fun v H2 => v = .non ∧ Q (.ref x) H2) E := by
  intro x dx nx ndx ne
  have s1 := mk_sm (o := .ins A.C dx []) nx ndx
  exact ⟨x, dx, v1, v2, d1, d2, rfl, upd_same, Dp.same s1 hd1, hs1, Dp.same s1 hd2, hs2, fun z e h1 h2 H2 s2 hx => ⟨rfl, q z e h1 h2 x dx H2 nx (s1.trans (s2.trans (hid_sub _ _))) hx⟩,
    fun h H2 s2 => qL h H2 (s1.trans (s2.trans (hid_sub _ _))), fun z y e h1 h2 dd H2 s2 h => qM z y e h1 h2 dd H2 (s1.trans (s2.trans (hid_sub _ _))) h⟩
/-- rows of a machine are rows -/
theorem rows_fine {z : Str} {R : Rows} (M : MachOk (zs z) R) (hz : z ∈ L8) (h6 : R.length ≤ 6) : rowsV z (rowsD R) = none ∧ smallRows (rowsD R) := by
  have hl : (R.map rowD).length = R.length := List.length_map _
  refine ⟨?_, ?_, fun d hd => ?_⟩
  · show (if _ ∧ _ then _ else _) = none
    rw [if_pos ⟨by rw [hl]; exact M.pos, by rw [hl]; exact h6⟩, badAt_none fun j e he => ?_]
    · rfl
    · obtain ⟨row, hrow, rfl⟩ := List.mem_map.mp (List.mem_of_getElem? he)
      rw [hl]
      exact (row_ok M hz hrow).2
  · rw [hl]; omega
  · obtain ⟨row, hrow, rfl⟩ := List.mem_map.mp hd
    exact (row_ok M hz hrow).1
/-- Machine(z, r), a machine's -/
theorem mk_M {H1 : Hp} {z : Str} {r : Addr} {R : Rows} {Q : VK} {E : XK} (hz : z ∈ L8) (M : MachOk (zs z) R) (h6 : R.length ≤ 6) (hd : Dp K H1 (.ref r) (rowsD R)) (hq : ∀ x H2, H1 x = none → Same H1 H2 → IsM K A.C H2 x z R → Q (.ref x) H2) :
    ∀ x dx, H1 x = none → H1 dx = none → dx ≠ x → sp_init K A (.ref x :: ([.str z, .ref r] ++ [])) (upd (upd H1 dx (.own x)) x (.ins A.C dx [])) (fun v H2 => v = .non ∧ Q (.ref x) H2) E := by
  have hf := rows_fine M hz h6
  refine mk_G (.str z) (show z.length ≤ 100000 from Nat.le_trans (l8_le hz) (by decide)) hd hf.2 (fun z' e h1 h2 x dx H2 nx s2 hx => hq x H2 nx s2 ⟨⟨dx, r, hx, Dp.same s2 hd⟩, hz, M, h6⟩) (fun h => absurd (l8_let z hz) (by rw [h]; exact Bool.false_ne_true)) (fun z' y e h1 h2 => ?_)
  cases e
  rw [hf.1] at h2
  cases h2
def sp_letters (K : PySem.W.Frag) (C : Addr) : Sp := fun vs H Q _ => ∃ (p : Addr) (z : Str) (R : Rows), vs = [.ref p] ∧ IsM K C H p z R ∧ Q (.str z) H
theorem ok_Machine_letters (T : Txt P K mg A) : FnOk P w K mg base CX0 1 A.a_Machine_letters A.d_Machine_letters ["self"] (sp_letters K A.C) := by
  refine T.f_Machine_letters.F.ok sc_Machine_letters (fun vs H Q E h => ?_) (fun cdv Ar outer s H vs Q E hr h => ?_)
  · obtain ⟨p, z, R, rfl, _⟩ := h
    rfl
  · obtain ⟨p, z, R, rfl, ⟨⟨dx, r, hp, hd⟩, _, _, _⟩, q⟩ := h
    refine ⟨_, (pss_one (ps_ret (pe_fld (pv 0) rfl))), ?_⟩
    exact ⟨_, rfl, p, A.C, dx, _, _, rfl, hp, T.cl, T.no_letters, mfs_letters _ _, q⟩
def sp_rows (K : PySem.W.Frag) (C : Addr) : Sp := fun vs H Q _ => ∃ (p : Addr) (z : Str) (R : Rows), vs = [.ref p] ∧ IsM K C H p z R ∧ ∀ v, Dp K H v (rowsD R) → Q v H
theorem ok_Machine_rows (T : Txt P K mg A) : FnOk P w K mg base CX0 1 A.a_Machine_rows A.d_Machine_rows ["self"] (sp_rows K A.C) := by
  refine T.f_Machine_rows.F.ok sc_Machine_rows (fun vs H Q E h => ?_) (fun cdv Ar outer s H vs Q E hr h => ?_)
  · obtain ⟨p, z, R, rfl, _⟩ := h
    rfl
  · obtain ⟨p, z, R, rfl, ⟨⟨dx, r, hp, hd⟩, _, _, _⟩, q⟩ := h
    refine ⟨_, (pss_one (ps_ret (pe_fld (pv 0) rfl))), ?_⟩
    exact ⟨_, rfl, p, A.C, dx, _, _, rfl, hp, T.cl, T.no_rows, mfs_rows _ _, q _ hd⟩
def sp_turn (K : PySem.W.Frag) (C : Addr) : Sp := fun vs H Q _ => ∃ (p : Addr) (z : Str) (R : Rows) (st c : Nat), vs = [.ref p, .int st, .str (S [c])] ∧ IsM K C H p z R ∧ st < R.length ∧ c ∈ zs z ∧ ∀ v, Dp K H v (turnD (stp (zs z) R st c)) → Q v H
theorem ok_Machine_turn (T : Txt P K mg A) : FnOk P w K mg base CX0 1 A.a_Machine_turn A.d_Machine_turn ["self", "state", "letter"] (sp_turn K A.C) := by
  refine T.f_Machine_turn.F.ok sc_Machine_turn (fun vs H Q E h => ?_) (fun cdv Ar outer s H vs Q E hr h => ?_)
  · obtain ⟨p, z, R, st, c, rfl, _⟩ := h
    rfl
  · obtain ⟨p, z, R, st, c, rfl, ⟨⟨dx, r, hp, hd⟩, hz, M, h6⟩, hst, hc, q⟩ := h
    refine ⟨_, (pss_one (ps_ret (pe_ix ix_tup (pe_ix ix_tup (pe_fld (pv 0) rfl) (pv 1) (fun _ _ => rfl)) (pe_m1 PySem.F.slot_str_index PySem.F.type_str_index mt_sindex (pe_fld (pv 0) rfl) (pv 2)) (fun _ _ => rfl)))), ?_⟩
    obtain ⟨row, g1, g2, g3, g4⟩ := stp_mem M hst hc
    obtain ⟨a, xs, e1, hs, ha⟩ := Dp.tupOf hd
    cases e1
    obtain ⟨v1, k1, k2⟩ := DpAll.get ha (i := st) (d := rowD row) (by rw [List.getElem?_map, g1]; rfl)
    obtain ⟨b, ys, e2, hs2, ha2⟩ := Dp.tupOf k2
    obtain ⟨v2, k3, k4⟩ := DpAll.get ha2 (i := ix (zs z) c) (d := turnD (stp (zs z) R st c)) (by rw [List.getElem?_map, g2]; rfl)
    refine ⟨_, rfl, p, A.C, dx, _, _, rfl, hp, T.cl, T.no_rows, mfs_rows _ _, _, rfl, r, xs, st, v1, rfl, rfl, hs, atI_nat k1, ?_⟩
    refine ⟨_, rfl, p, A.C, dx, _, _, rfl, hp, T.cl, T.no_letters, mfs_letters _ _, ⟨_, rfl⟩, _, rfl, z, S [c], ix (zs z) c, [], rfl, rfl, l8_index z hz c hc, ?_⟩
    exact ⟨b, ys, ((ix (zs z) c : Nat) : Int), v2, e2, rfl, hs2, atI_nat k3, q v2 k4⟩
def sp_after (K : PySem.W.Frag) (A : Ad) : Sp := fun vs H Q E => ∃ (p : Addr) (v0 : V) (d : PyData) (z : Str) (R : Rows), vs = [.ref p, v0] ∧ IsM K A.C H p z R ∧ Dp K H v0 d ∧ small d ∧
  (∀ x, v0 = .str x → (∀ c ∈ zs x, c ∈ zs z) → ∀ v H', Same H H' → Dp K H' v (.tuple [.int (runM (zs z) R 0 (zs x)).1, .str (S (runM (zs z) R 0 (zs x)).2)]) → Q v H') ∧
  (isValD z d = false → ∀ H', Same H H' → E (.ref A.X_BadValue) none H')
theorem ok_Machine__after (T : Txt P K mg A) : FnOk P w K mg base (L2.CX P w) 3 A.a_Machine__after A.d_Machine__after ["self", "value"] (sp_after K A) := by
  refine T.f_Machine__after.F.okX sc_Machine__after (fun vs H Q E h => ?_) (fun cdv Ar outer s H vs Q E hr h => ?_)
  · obtain ⟨p, v0, d, z, R, rfl, _⟩ := h
    rfl
  · obtain ⟨p, v0, d, z, R, rfl, hM, hd0, hsm, q, qe⟩ := h
    refine ⟨_, (pss_cons (ps_expr (pe_call (ok_check_value T) (hr.mono (by decide)) (by rfl) T.f_check_value.g T.f_check_value.F.kp T.f_check_value.b .nil passE (pa_cons (pe_fld (pv 0) rfl) (pa_cons (pv 1) pa_nil)))) (pss_cons (ps_set (i := 2) sc_Machine__after.nd rfl (Or.inl rfl) pe_int) (pss_cons (ps_set (i := 3) sc_Machine__after.nd rfl (Or.inl rfl) (pe_lst pa_nil)) (pss_cons (ps_for (passes_of rfl) rfl (pi_str (pv 1)) (pg_name (i := 4) sc_Machine__after.nd rfl (Or.inl rfl)) (pss_cons (ps_asg (pe_meth (pv 0) T.cl T.m_turn (ok_Machine_turn T) (hr.mono (by decide)) T.f_Machine_turn.b .nil pass0 (pa_cons (pv 2) (pa_cons (pv 4) pa_nil))) (pg_tup (by rfl) (pgs_cons (pg_name (i := 2) sc_Machine__after.nd rfl (Or.inl rfl)) (pgs_cons (pg_name (i := 5) sc_Machine__after.nd rfl (Or.inl rfl)) pgs_nil)))) (pss_one (ps_expr (pe_bm PySem.F.plainAttrs_list PySem.F.slot_list_append PySem.F.type_list_append mt_append (pv 3) (pa_cons (pv 5) pa_nil)))))) (pss_one (ps_ret (pe_tup (pa_cons (pv 2) (pa_cons (pe_join pe_str (pv 3)) pa_nil))))))))), ?_⟩
    obtain ⟨dx, r, hp, hd⟩ := hM.at_
    refine ⟨_, rfl, p, A.C, dx, _, _, rfl, hp, T.cl, T.no_letters, mfs_letters _ _, _, rfl, z, v0, d, rfl, hd0, hsm, fun hv H1 s1 => ?_, fun hv H1 s1 => qe hv _ s1⟩
    obtain ⟨x, rfl⟩ : ∃ x, d = .str x := by
      cases d with
      | str x => exact ⟨x, rfl⟩
      | _ => exact absurd hv (by simp [isValD])
    obtain rfl := Dp.strOf hd0
    have hx : x.length ≤ 100000 := hsm
    have hc : ∀ c ∈ zs x, c ∈ zs z := fun c h => of_decide_eq_true (List.all_eq_true.mp hv c h)
    have q := q x rfl hc
    refine ⟨Nat.zero_le _, fun l hl => ?_⟩
    have l0 : H l = none := s1.free hl
    refine ⟨_, rfl, x, rfl, ?_⟩
    refine for_it walk_str (fun i σ H' => Same H H' ∧ ∃ o1 o2, σ = [some (.ref p), some (.str x), some (.int (runM (zs z) R 0 ((zs x).take i)).1), some (.ref l), o1, o2] ∧ H' l = some (.lst ((outL (zs z) R 0 ((zs x).take i)).map fun o => .str (S o))))
      ⟨Same.up s1 hl, _, _, rfl, upd_same⟩ (fun _ _ _ _ _ => trivial) ?_ ?_
    · rintro i y σ H2 H3 hi ⟨sm, o1, o2, rfl, hL⟩ ⟨rfl, c, hci, rfl⟩
      have hcx := str_at hci
      have ht := take_succ' hcx
      have hpre : ∀ d ∈ (zs x).take i, d ∈ zs z := fun d hd => hc d (List.mem_of_mem_take hd)
      have hM2 := hM.same sm
      obtain ⟨dx2, r2, hp2, hd2⟩ := hM2.at_
      have hst := runM_lt hM.ok ((zs x).take i) 0 hM.ok.pos hpre
      have hcz : c ∈ zs z := hc c (List.mem_of_getElem? hcx)
      refine ⟨_, rfl, p, dx2, _, rfl, hp2, mfs_no _ _ (by decide +kernel) (by decide +kernel), _, rfl, _, rfl, p, z, R, _, c, rfl, hM2, hst, hcz, fun v hv => ?_⟩
      obtain ⟨t, xs, rfl, hts, hta⟩ := Dp.tupOf hv
      cases hta with
      | cons g1 g2 =>
        cases g2 with
        | cons g2 g3 =>
          cases g3
          obtain rfl := Dp.intOf g1
          obtain rfl := Dp.strOf g2
          refine ⟨t, _, rfl, hts, rfl, _, _, rfl, _, _, rfl, rfl, ?_⟩
          refine ⟨_, rfl, .inl ⟨rfl, _, SqL.of hL⟩, _, rfl, l, _, _, rfl, rfl, hL, ?_, ?_⟩
          · rw [List.length_map, outL_len, List.length_take]
            exact Nat.lt_of_le_of_lt (Nat.min_le_left _ _) (Nat.lt_of_lt_of_le hi (Nat.le_trans hx (by decide)))
          · refine ⟨Same.set sm l0, some (.str ⟨#[c]⟩), some (.str (S (stp (zs z) R (runM (zs z) R 0 ((zs x).take i)).1 c).2)), ?_, ?_⟩
            · rw [ht, runM_app]
              rfl
            · rw [upd_same, ht, outL_app, List.map_append]
              rfl
    · rintro σ H2 ⟨sm, o1, o2, rfl, hL⟩
      have e0 : (zs x).take x.cps.size = zs x := List.take_of_length_le (by simp [zs])
      rw [e0] at hL ⊢
      refine ⟨_, rfl, ⟨_, rfl⟩, _, rfl, S [], l, (outL (zs z) R 0 (zs x)).map S, rfl, rfl, .inl (.inl (.inl (by rw [hL, List.map_map]; rfl))), ?_, ?_⟩
      · have e5 : (((outL (zs z) R 0 (zs x)).map S).map (·.length)).sum = (outL (zs z) R 0 (zs x)).flatten.length := by
          rw [List.length_flatten, List.map_map]
          rfl
        have e6 := runM_len hM.ok (zs x) 0 hM.ok.pos hc
        rw [e5, outL_flat]
        rw [zs_length] at e6
        show _ + _ * 0 ≤ _
        omega
      · rw [join_flat, outL_flat]
        refine ⟨by show 2 ≤ sizeLine; decide, fun t ht => ?_⟩
        exact q _ _ (Same.up sm ht) (Dp.tupNew upd_same (.cons (.int _) (.cons (.str _) .nil)))
def sp_made (K : PySem.W.Frag) (A : Ad) : Sp := fun vs H Q E => ∃ (p : Addr) (v0 : V) (d : PyData) (z : Str) (R : Rows), vs = [.ref p, v0] ∧ IsM K A.C H p z R ∧ Dp K H v0 d ∧ small d ∧
  (∀ x, v0 = .str x → (∀ c ∈ zs x, c ∈ zs z) → ∀ H', Same H H' → Q (.str (S (madeM (zs z) R (zs x)))) H') ∧ (isValD z d = false → ∀ H', Same H H' → E (.ref A.X_BadValue) none H')
theorem ok_Machine_made (T : Txt P K mg A) : FnOk P w K mg base (L2.CX P w) 4 A.a_Machine_made A.d_Machine_made ["self", "value"] (sp_made K A) := by
  refine T.f_Machine_made.F.okX sc_Machine_made (fun vs H Q E h => ?_) (fun cdv Ar outer s H vs Q E hr h => ?_)
  · obtain ⟨p, v0, d, z, R, rfl, _⟩ := h
    rfl
  · obtain ⟨p, v0, d, z, R, rfl, hM, hd0, hsm, q, qe⟩ := h
    refine ⟨_, (pss_one (ps_ret (pe_ix ix_tup (pe_meth (pv 0) T.cl T.m__after (ok_Machine__after T) (hr.mono (by decide)) T.f_Machine__after.b .nil passE (pa_cons (pv 1) pa_nil)) pe_int (fun _ _ => rfl)))), ?_⟩
    obtain ⟨dx, r, hp, hd⟩ := hM.at_
    refine ⟨_, rfl, p, dx, _, rfl, hp, mfs_no _ _ (by decide +kernel) (by decide +kernel), _, rfl, p, v0, d, z, R, rfl, hM, hd0, hsm, fun x ex hc v H1 s1 hv => ?_, qe⟩
    obtain ⟨t, xs, rfl, hts, hta⟩ := Dp.tupOf hv
    cases hta with
    | cons g1 g2 =>
      cases g2 with
      | cons g2 g3 =>
        cases g3
        obtain rfl := Dp.intOf g1
        obtain rfl := Dp.strOf g2
        exact ⟨t, _, 1, _, rfl, rfl, hts, rfl, q x ex hc _ s1⟩
def sp_state_after (K : PySem.W.Frag) (A : Ad) : Sp := fun vs H Q E => ∃ (p : Addr) (v0 : V) (d : PyData) (z : Str) (R : Rows), vs = [.ref p, v0] ∧ IsM K A.C H p z R ∧ Dp K H v0 d ∧ small d ∧
  (∀ x, v0 = .str x → (∀ c ∈ zs x, c ∈ zs z) → ∀ H', Same H H' → Q (.int ((runM (zs z) R 0 (zs x)).1 : Nat)) H') ∧ (isValD z d = false → ∀ H', Same H H' → E (.ref A.X_BadValue) none H')
theorem ok_Machine_state_after (T : Txt P K mg A) : FnOk P w K mg base (L2.CX P w) 4 A.a_Machine_state_after A.d_Machine_state_after ["self", "value"] (sp_state_after K A) := by
  refine T.f_Machine_state_after.F.okX sc_Machine_state_after (fun vs H Q E h => ?_) (fun cdv Ar outer s H vs Q E hr h => ?_)
  · obtain ⟨p, v0, d, z, R, rfl, _⟩ := h
    rfl
  · obtain ⟨p, v0, d, z, R, rfl, hM, hd0, hsm, q, qe⟩ := h
    refine ⟨_, (pss_one (ps_ret (pe_ix ix_tup (pe_meth (pv 0) T.cl T.m__after (ok_Machine__after T) (hr.mono (by decide)) T.f_Machine__after.b .nil passE (pa_cons (pv 1) pa_nil)) pe_int (fun _ _ => rfl)))), ?_⟩
    obtain ⟨dx, r, hp, hd⟩ := hM.at_
    refine ⟨_, rfl, p, dx, _, rfl, hp, mfs_no _ _ (by decide +kernel) (by decide +kernel), _, rfl, p, v0, d, z, R, rfl, hM, hd0, hsm, fun x ex hc v H1 s1 hv => ?_, qe⟩
    obtain ⟨t, xs, rfl, hts, hta⟩ := Dp.tupOf hv
    cases hta with
    | cons g1 g2 =>
      cases g2 with
      | cons g2 g3 =>
        cases g3
        obtain rfl := Dp.intOf g1
        obtain rfl := Dp.strOf g2
        exact ⟨t, _, 0, _, rfl, rfl, hts, rfl, q x ex hc _ s1⟩
theorem isM_ty (T : Txt P K mg A) {H : Hp} {p : Addr} {z : Str} {R : Rows} (h : IsM K A.C H p z R) : TyX K H (.ref p) (.ref A.C) := by
  obtain ⟨dx, r, hp, _⟩ := h.at_
  exact .base (.ins hp T.cl T.iA T.iN T.iT T.iM)
theorem kit_self {t : Value} : PySem.W.kitOne K t t = some true := by
  unfold PySem.W.kitOne
  rw [if_pos (by simp)]
end
end K1
set_option Elab.async false
set_option linter.all false
set_option maxRecDepth 100000
set_option maxHeartbeats 4000000
namespace K1
open PySem PySem.Spec PyProof.Rows L2 FX
section
variable {P : Program} {w : World} {K : PySem.W.Frag} {mg : Str → Option Value} {base : Heap} {A : Ad}
theorem l8_line {z : Str} (h : z ∈ L8) : z.length ≤ sizeLine := Nat.le_trans (l8_le h) (by decide)
theorem l8_lt {z : Str} (h : z ∈ L8) : z.cps.size < sizeLine := Nat.lt_of_le_of_lt (l8_le h) (by decide)
def sp_copying_row (K : PySem.W.Frag) : Sp := fun vs H Q _ => ∃ (z : Str) (st : Nat), vs = [.str z, .int st] ∧ z ∈ L8 ∧ ∀ v H', Same H H' → Dp K (New H H') v (rowD (copyRow (zs z) st)) → Q v H'
theorem ok_copying_row (T : Txt P K mg A) : FnOk P w K mg base CX0 1 A.a_copying_row A.d_copying_row ["letters", "state"] (sp_copying_row K) := by
  refine T.f_copying_row.F.ok sc_copying_row (fun vs H Q E h => ?_) (fun cdv Ar outer s H vs Q E hr h => ?_)
  · obtain ⟨z, st, rfl, _⟩ := h
    rfl
  · obtain ⟨z, st, rfl, hz, q⟩ := h
    refine ⟨_, (pss_one (ps_ret (pe_callTy call_tuple_of (by rfl) T.n_tuple (by decide +kernel) (pa_cons (pe_lc (own := [("letter", 2)]) (g := (gName 2)) (tt := tYes) (by rfl) sc_copying_row.nd (pi_str (pv 0)) (blkOk_by (own := [("letter", 2)]) (N := ["letters", "state", "letter"]) (sc := defScope s_copying_row) (by decide +kernel)) (fun _ _ _ _ _ => (pg_name (i := 2) sc_copying_row.nd rfl (Or.inl rfl))) (fun _ _ _ _ _ => pts_nil) (fun _ _ _ _ _ => by exact (pe_tup (pa_cons (pv 1) (pa_cons (pv 2) pa_nil))))) pa_nil)))), ?_⟩
    refine ⟨_, rfl, z, rfl, fun D hD => ?_⟩
    refine lc_rel walk_str (fun j v H' => ∃ c, (zs z)[j]? = some c ∧ Dp K (New H H') v (turnD (st, [c]))) (fun _ _ _ _ s ⟨c, h1, h2⟩ => ⟨c, h1, Dp.same (new_trans s) h2⟩) hD (l8_lt hz) (fun _ _ => trivial) ?_ ?_
    · rintro i y H1 H2 hi sm ⟨o, hd⟩ ⟨rfl, c, hc, rfl⟩ kk
      refine ⟨rfl, ?_⟩
      unfold tYes
      refine iteT ⟨_, rfl, _, rfl, by show 2 ≤ sizeLine; decide, fun p hp => kk _ _ (same_upd hp) ⟨c, str_at hc, ?_⟩⟩
      exact Dp.tupNew (new_hid_at (sm.free hp) (by simp; exact (ne_of_none hd hp).symm) upd_same) (.cons (.int _) (.cons (.str _) .nil))
    · intro H1 xs sm hx hn hv
      refine ⟨D, xs, rfl, .inl ⟨.inl (.inl hx), fun l hl => q _ _ (Same.up sm hl) (tup_new (ls := [D]) sm hl (dpAll_of ?_ ?_))⟩⟩
      · rw [List.length_map, copyRow, List.length_map, hn, zs_length]
        rfl
      · intro j v d hj hd
        obtain ⟨c, h1, h2⟩ := hv j v hj
        rw [List.getElem?_map, copyRow, List.getElem?_map, h1] at hd
        cases hd
        exact h2
def sp_copying_turns (K : PySem.W.Frag) : Sp := fun vs H Q _ => ∃ (z : Str) (sl : List Nat), vs = [.str z, .str (S sl)] ∧ z ∈ L8 ∧ ∀ v H', Same H H' → Dp K (New H H') v (rowD (turnsR (zs z) sl)) → Q v H'
theorem ok_copying_turns (T : Txt P K mg A) : FnOk P w K mg base CX0 1 A.a_copying_turns A.d_copying_turns ["letters", "silent"] (sp_copying_turns K) := by
  refine T.f_copying_turns.F.ok sc_copying_turns (fun vs H Q E h => ?_) (fun cdv Ar outer s H vs Q E hr h => ?_)
  · obtain ⟨z, st, rfl, _⟩ := h
    rfl
  · obtain ⟨z, sl, rfl, hz, q⟩ := h
    refine ⟨_, (pss_one (ps_ret (pe_callTy call_tuple_of (by rfl) T.n_tuple (by decide +kernel) (pa_cons (pe_lc (own := [("at", 2), ("letter", 3)]) (g := (gTup K 2 (gCons (gName 2) (gCons (gName 3) gNil)))) (tt := tYes) (by rfl) sc_copying_turns.nd (pi_enumS (by rfl) T.n_enumerate (pa_cons (pv 0) pa_nil)) (blkOk_by (own := [("at", 2), ("letter", 3)]) (N := ["letters", "silent", "at", "letter"]) (sc := defScope s_copying_turns) (by decide +kernel)) (fun _ _ _ _ _ => (pg_tup (by rfl) (pgs_cons (pg_name (i := 2) sc_copying_turns.nd rfl (Or.inl rfl)) (pgs_cons (pg_name (i := 3) sc_copying_turns.nd rfl (Or.inl rfl)) pgs_nil)))) (fun _ _ _ _ _ => pts_nil) (fun _ _ _ _ _ => by exact (pe_tup (pa_cons (pe_op op_add (pv 2) pe_int) (pa_cons (pe_ifExp (pt_cmpR op_eq (pv 3) (pv 1) (nomark _)) pe_str (pv 3)) pa_nil))))) pa_nil)))), ?_⟩
    refine ⟨_, rfl, z, rfl, fun D hD => ?_⟩
    refine lc_rel walk_enumS (fun j v H' => ∃ c, (zs z)[j]? = some c ∧ Dp K (New H H') v (turnD (j + 1, if [c] = sl then [] else [c]))) (fun _ _ _ _ s ⟨c, h1, h2⟩ => ⟨c, h1, Dp.same (new_trans s) h2⟩) hD (l8_lt hz) (fun _ _ => trivial) ?_ ?_
    · rintro i y H1 H2 hi sm ⟨o, hd⟩ ⟨p, c, rfl, hp, rfl, hc⟩ kk
      have s2 := same_upd (o := .tup [.int (i : Nat), .str ⟨#[c]⟩]) hp
      refine ⟨p, _, rfl, .inl (.inl upd_same), rfl, _, _, rfl, _, _, rfl, rfl, rfl, ?_⟩
      unfold tYes
      refine iteT ⟨_, rfl, _, _, rfl, rfl, _, rfl, _, rfl, rfl, _, rfl, ?_⟩
      have hd2 := s2 _ _ hd
      have key : ∀ (t : List Nat), t = (if [c] = sl then [] else [c]) → ∀ u, upd H1 p (.tup [.int (i : Nat), .str ⟨#[c]⟩]) u = none →
          ∃ c', (zs z)[i]? = some c' ∧ Dp K (New H (hid [D] (upd (upd H1 p (.tup [.int (i : Nat), .str ⟨#[c]⟩])) u (.tup [.int ((i : Nat) + 1), .str (S t)])))) (.ref u) (turnD (i + 1, if [c'] = sl then [] else [c'])) := by
        intro t et u hu
        refine ⟨c, str_at hc, ?_⟩
        rw [← et]
        have e2 : ((i : Int) + 1) = ((i + 1 : Nat) : Int) := by omega
        rw [e2]
        exact Dp.tupNew (new_hid_at ((Same.up sm hp).free hu) (by simp; exact (ne_of_none hd2 hu).symm) upd_same) (.cons (.int _) (.cons (.str _) .nil))
      by_cases e : [c] = sl
      · rw [show decide (V.str ⟨#[c]⟩ = V.str (S sl)) = true from decide_eq_true (by rw [← e]; rfl)]
        refine iteT ⟨by show 2 ≤ sizeLine; decide, fun u hu => kk _ _ (s2.trans (same_upd hu)) (key [] (by rw [if_pos e]) u hu)⟩
      · rw [show decide (V.str ⟨#[c]⟩ = V.str (S sl)) = false from decide_eq_false (fun h => e (S_inj (by injection h)))]
        refine iteF ⟨_, rfl, by show 2 ≤ sizeLine; decide, fun u hu => kk _ _ (s2.trans (same_upd hu)) (key [c] (by rw [if_neg e]) u hu)⟩
    · intro H1 xs sm hx hn hv
      refine ⟨D, xs, rfl, .inl ⟨.inl (.inl hx), fun l hl => q _ _ (Same.up sm hl) (tup_new (ls := [D]) sm hl (dpAll_of ?_ ?_))⟩⟩
      · rw [List.length_map, turnsR, List.length_map, List.length_range, hn, zs_length]
        rfl
      · intro j v d hj hd
        obtain ⟨c, h1, h2⟩ := hv j v hj
        have hjl := (List.getElem?_eq_some_iff.mp h1).1
        have e3 : (zs z).getD j 0 = c := by rw [List.getD_eq_getElem?_getD, h1]; rfl
        rw [List.getElem?_map, turnsR, List.getElem?_map, List.getElem?_range hjl] at hd
        simp only [Option.map_some, e3] at hd
        cases hd
        exact h2
end
end K1
set_option Elab.async false
set_option linter.all false
set_option maxRecDepth 100000
set_option maxHeartbeats 4000000
namespace K1
open PySem PySem.Spec PyProof.Rows L2 FX
section
variable {P : Program} {w : World} {K : PySem.W.Frag} {mg : Str → Option Value} {base : Heap} {A : Ad}
theorem l8_small0 {z : Str} (hz : z ∈ L8) : small0 (.str z) := show z.length ≤ 100000 from Nat.le_trans (l8_le hz) (by decide)
theorem cl_go {H : Hp} {z : Str} {Q : VK} {E : XK} (hz : z ∈ L8) (q : ∀ H', Same H H' → Q .non H') : sp_check_letters K A [.str z] H Q E :=
  ⟨_, .str z, rfl, .str z, show z.length ≤ 100000 from Nat.le_trans (l8_le hz) (by decide), fun _ => q, fun h => absurd (l8_let z hz) (by rw [h]; exact Bool.false_ne_true)⟩
theorem cv_go {H : Hp} {z x : Str} {Q : VK} {E : XK} (hx : x.length ≤ 100000) (h : ∀ c ∈ zs x, c ∈ zs z) (q : ∀ H', Same H H' → Q .non H') : sp_check_value K A [.str z, .str x] H Q E :=
  ⟨z, _, .str x, rfl, .str x, hx, fun _ => q, fun e => absurd (isVal_of h) (by rw [e]; exact Bool.false_ne_true)⟩
def sp_plain (K : PySem.W.Frag) (A : Ad) : Sp := fun vs H Q E => ∃ (v : V) (d : PyData), vs = [v] ∧ Dp K H v d ∧ small0 d ∧ (isLetD d = true → ∃ z, v = .str z ∧ z ∈ L8 ∧ ∀ p H', Same H H' → IsM K A.C H' p z (plainR (zs z)) → Q (.ref p) H') ∧
  (isLetD d = false → ∀ H', Same H H' → E (.ref A.X_BadLetters) none H')
theorem ok_plain (T : Txt P K mg A) : FnOk P w K mg base (L2.CX P w) 7 A.a_plain A.d_plain ["letters"] (sp_plain K A) := by
  refine T.f_plain.F.okX sc_plain (fun vs H Q E h => ?_) (fun cdv Ar outer s H vs Q E hr h => ?_)
  · obtain ⟨v, d, rfl, _⟩ := h
    rfl
  · obtain ⟨v, d, rfl, hd, hsm, q, qe⟩ := h
    refine ⟨_, (pss_cons (ps_expr (pe_call (ok_check_letters T) (hr.mono (by decide)) (by rfl) T.f_check_letters.g T.f_check_letters.F.kp T.f_check_letters.b .nil passE (pa_cons (pv 0) pa_nil))) (pss_one (ps_ret (pe_make T.mkC (ok_Machine_init T) (hr.mono (by decide)) (by rfl) T.g_Machine T.f_Machine_init.b .nil passE (pa_cons (pv 0) (pa_cons (pe_tup (pa_cons (pe_call (ok_copying_row T) (hr.mono (by decide)) (by rfl) T.f_copying_row.g T.f_copying_row.F.kp T.f_copying_row.b .nil pass0 (pa_cons (pv 0) (pa_cons pe_int pa_nil))) pa_nil)) pa_nil)))))), ?_⟩
    refine ⟨_, rfl, v, d, rfl, hd, hsm, fun hL H1 s1 => ?_, qe⟩
    obtain ⟨z, rfl, hz, q⟩ := q hL
    refine ⟨_, rfl, _, rfl, z, 0, rfl, hz, fun v H2 s2 hv => ⟨by show 1 ≤ sizeLine; decide, fun t ht => ?_⟩⟩
    exact mk_M hz (plain_ok _) (by show 1 ≤ 6; decide) (Dp.tupNew upd_same (.cons (Dp.same (same_upd ht) (dp_new hv)) .nil)) fun x H3 _ s3 hM => q x H3 ((s1.trans s2).trans ((same_upd ht).trans s3)) hM
theorem plain_go {H : Hp} {z : Str} {Q : VK} {E : XK} (hz : z ∈ L8) (q : ∀ p H', Same H H' → IsM K A.C H' p z (plainR (zs z)) → Q (.ref p) H') : sp_plain K A [.str z] H Q E :=
  ⟨_, .str z, rfl, .str z, show z.length ≤ 100000 from Nat.le_trans (l8_le hz) (by decide), fun _ => ⟨z, rfl, hz, q⟩, fun h => absurd (l8_let z hz) (by rw [h]; exact Bool.false_ne_true)⟩
def sp_cut (K : PySem.W.Frag) (C : Addr) : Sp := fun vs H Q _ => ∃ (z : Str) (n : Nat), vs = [.str z, .int n] ∧ z ∈ L8 ∧ n ≤ 5 ∧ ∀ p H', Same H H' → IsM K C H' p z (cutR (zs z) n) → Q (.ref p) H'
theorem flat_rep {α : Type} (n : Nat) (x : α) : (List.replicate n [x]).flatten = List.replicate n x := by
  induction n with
  | zero => rfl
  | succ n ih => rw [List.replicate_succ, List.flatten_cons, ih, List.replicate_succ]; rfl
theorem ok_cut (T : Txt P K mg A) : FnOk P w K mg base CX0 7 A.a_cut A.d_cut ["letters", "many"] (sp_cut K A.C) := by
  refine T.f_cut.F.ok sc_cut (fun vs H Q E h => ?_) (fun cdv Ar outer s H vs Q E hr h => ?_)
  · obtain ⟨z, n, rfl, _⟩ := h
    rfl
  · obtain ⟨z, n, rfl, hz, hn, q⟩ := h
    refine ⟨_, (pss_cons (ps_expr (pe_call (ok_check_letters T) (hr.mono (by decide)) (by rfl) T.f_check_letters.g T.f_check_letters.F.kp T.f_check_letters.b .nil passL (pa_cons (pv 0) pa_nil))) (pss_cons (ps_if (PW.pt (pw_or (pt_not (pt_val (pe_call (ok_is_whole T) (hr.mono (by decide)) (by rfl) T.f_is_whole.g T.f_is_whole.F.kp T.f_is_whole.b .nil pass0 (pa_cons (pv 1) pa_nil)))) (pw_or1 (pt_not (pt_chain op_le op_le pe_int (pv 1) (pe_glob (v := v_MOST_KEPT) rfl T.c_MOST_KEPT ⟨_, rfl⟩)))))) (pss_one (ps_never)) pss_nil) (pss_cons (ps_setLc (i := 2) (own := [("state", 3)]) (g := (gName 3)) (tt := tYes) (by rfl) sc_cut.nd rfl rfl (sw_true rfl rfl rfl (by decide +kernel)) (pi_range1 (by rfl) T.n_range (pa_cons (pv 1) pa_nil)) (blkOk_by (own := [("state", 3)]) (N := ["letters", "many", "rows", "state"]) (sc := defScope s_cut) (by decide +kernel)) (fun _ _ _ _ _ => (pg_name (i := 3) sc_cut.nd rfl (Or.inl rfl))) (fun _ _ _ _ _ => pts_nil) (fun _ _ _ _ _ => by exact (pe_call (ok_copying_row T) (hr.mono (by decide)) (by rfl) T.f_copying_row.g T.f_copying_row.F.kp T.f_copying_row.b .nil pass0 (pa_cons (pv 0) (pa_cons (pe_op op_add (pv 3) pe_int) pa_nil))))) (pss_cons (ps_expr (pe_bm PySem.F.plainAttrs_list PySem.F.slot_list_append PySem.F.type_list_append mt_append (pv 2) (pa_cons (pe_op op_repT (pe_tup (pa_cons (pe_tup (pa_cons (pv 1) (pa_cons pe_str pa_nil))) pa_nil)) (pe_callB call_len_str (by rfl) T.n_len (by decide +kernel) (pa_cons (pv 0) pa_nil))) pa_nil))) (pss_one (ps_ret (pe_make T.mkC (ok_Machine_init T) (hr.mono (by decide)) (by rfl) T.g_Machine T.f_Machine_init.b .nil passL (pa_cons (pv 0) (pa_cons (pe_callTy call_tuple_of (by rfl) T.n_tuple (by decide +kernel) (pa_cons (pv 2) pa_nil)) pa_nil))))))))), ?_⟩
    refine ⟨_, rfl, _, .str z, rfl, .str z, l8_small0 hz, fun _ H1 s1 => ?_, fun h => absurd (l8_let z hz) (by rw [h]; exact Bool.false_ne_true)⟩
    refine ⟨_, rfl, _, .int n, rfl, .int _, _, rfl, iteF ?_⟩
    refine ⟨_, rfl, 0, _, rfl, rfl, _, rfl, ?_⟩
    rw [if_pos (decide_eq_true (by omega))]
    refine ⟨_, _, rfl, rfl, _, rfl, ?_⟩
    rw [show decide ((n : Int) ≤ 5) = true from decide_eq_true (by omega)]
    refine iteF ⟨_, rfl, n, rfl, by omega, by omega, fun D hD => ?_⟩
    have D0 : H D = none := s1.free hD
    refine lc_rel walk_range (fun j v H' => Dp K (New H H') v (rowD (copyRow (zs z) (j + 1)))) (fun _ _ _ _ s h => Dp.same (new_trans s) h) hD (by show (n : Int).toNat < _; exact Nat.lt_of_le_of_lt (by omega) (show 5 < sizeLine by decide)) (fun _ _ => trivial) ?_ ?_
    · rintro i y H2 H3 hi sm ⟨o, hd⟩ ⟨rfl, rfl⟩ kk
      refine ⟨rfl, ?_⟩
      unfold tYes
      refine iteT ⟨_, rfl, _, rfl, _, _, rfl, rfl, z, i + 1, ?_, hz, fun v H3 s3 hv => kk _ _ s3 (Dp.same ?_ hv)⟩
      · show [V.str z, V.int ((0 : Int) + (i : Int) + 1)] = _
        rw [int01]
      · exact new_in (s1.trans sm) (by simp [hd])
    · intro H2 xs sm hx hxn hv
      have s2 := s1.trans sm
      have hxn' : xs.length = n := by rw [hxn]; omega
      have hnD : ∀ p, H2 p = none → p ≠ D := fun p hp => (ne_of_none hx hp).symm
      refine ⟨_, rfl, .inl ⟨rfl, _, SqL.of hx⟩, _, rfl, by show 2 ≤ sizeLine; decide, fun p hp => ⟨by show 1 ≤ sizeLine; decide, fun p2 hp2 => ?_⟩⟩
      have l8 := l8_len z hz
      refine ⟨_, rfl, z, rfl, l8_line hz, p2, _, _, rfl, rfl, .inl (.inl upd_same), by simp, by omega, by omega, by simp, fun p3 hp3 => ?_⟩
      have t1 := same_upd (o := .tup [V.int n, V.str (Str.ofString "")]) hp
      have t2 := same_upd (o := .tup [V.ref p]) hp2
      have hx3 := same_upd (o := .tup (List.replicate ((z.length : Nat) : Int).toNat [V.ref p]).flatten) hp3 _ _ (t2 _ _ (t1 _ _ hx))
      refine ⟨D, xs, _, rfl, rfl, hx3, by rw [hxn']; exact Nat.lt_of_le_of_lt hn (show 5 < sizeLine by decide), ?_⟩
      refine ⟨_, rfl, _, rfl, D, _, rfl, .inl ⟨.inl (.inl upd_same), fun l hl => ?_⟩⟩
      generalize hH3 : upd (upd (upd H2 p (.tup [V.int n, V.str (Str.ofString "")])) p2 (.tup [V.ref p])) p3 (.tup (List.replicate ((z.length : Nat) : Int).toNat [V.ref p]).flatten) = H3 at hl hx3
      have s3 : Same H2 H3 := by rw [← hH3]; exact (t1.trans t2).trans (same_upd hp3)
      have g3 : H3 p3 = some (.tup (List.replicate z.length (V.ref p))) := by rw [← hH3, upd_same, flat_rep]; rfl
      have g1 : H3 p = some (.tup [V.int n, V.str (Str.ofString "")]) := by rw [← hH3]; exact same_upd hp3 _ _ (t2 _ _ upd_same)
      have nD : ∀ u, H2 u = none → u ≠ D := hnD
      have sh : Same (hid [D] H3) (upd (upd H3 D (.lst (xs ++ [V.ref p3]))) l (.tup (xs ++ [V.ref p3]))) := by
        rw [← hid_upd (l := D) (o := .lst (xs ++ [V.ref p3])) (by simp)]
        exact (hid_sub _ _).trans (same_upd hl)
      have hp3' : p3 ≠ D := nD p3 (t1.free (t2.free hp3))
      have hp1' : p ≠ D := nD p hp
      refine mk_M hz (cut_ok _ n) (by rw [cut_len]; omega) (Dp.tupNew upd_same (dpAll_of ?_ ?_)) fun x H5 _ s5 hM => q x H5 ?_ hM
      · simp [cutR, hxn']
      · intro j v d hj hd
        by_cases hlt : j < n
        · rw [List.getElem?_append_left (by omega)] at hj
          have e1 : d = rowD (copyRow (zs z) (j + 1)) := by
            rw [List.getElem?_map, cutR, List.getElem?_append_left (by simp; exact hlt), List.getElem?_map, List.getElem?_range hlt] at hd
            exact (Option.some.inj hd).symm
          rw [e1]
          exact Dp.same ((new_sub _ _).trans ((hid_same fun b o _ e => s3 b o e).trans sh)) (hv j v hj)
        · have hj2 : j = n := by
            have := (List.getElem?_eq_some_iff.mp hj).1
            simp at this
            omega
          subst hj2
          rw [List.getElem?_append_right (by omega), hxn'] at hj
          simp at hj
          subst hj
          rw [List.getElem?_map, cutR, List.getElem?_append_right (by simp)] at hd
          simp at hd
          subst hd
          refine Dp.same sh (Dp.tupNew (by rw [hid_out (by simp; exact hp3')]; exact g3) ?_)
          rw [List.map_replicate, zs_length]
          have hone : Dp K (hid [D] H3) (V.ref p) (turnD (j, [])) := Dp.tupNew (by rw [hid_out (by simp; exact hp1')]; exact g1) (.cons (.int _) (.cons (.str _) .nil))
          exact dpAll_of (by simp) fun i v d h1 h2 => by
            rw [(List.mem_replicate.mp (List.mem_of_getElem? h1)).2, (List.mem_replicate.mp (List.mem_of_getElem? h2)).2]
            exact hone
      · refine Same.trans ?_ s5
        refine Same.trans ?_ (same_upd hl)
        exact Same.set (s2.trans s3) D0
def sp_stripped (K : PySem.W.Frag) (C : Addr) : Sp := fun vs H Q _ => ∃ (z m : Str), vs = [.str z, .str m] ∧ z ∈ L8 ∧ m.length ≤ 100 ∧ (∀ c ∈ zs m, c ∈ zs z) ∧ ∀ p H', Same H H' → IsM K C H' p z (stripR (zs z) (zs m)) → Q (.ref p) H'
theorem ok_stripped (T : Txt P K mg A) : FnOk P w K mg base CX0 7 A.a_stripped A.d_stripped ["letters", "some"] (sp_stripped K A.C) := by
  refine T.f_stripped.F.ok sc_stripped (fun vs H Q E h => ?_) (fun cdv Ar outer s H vs Q E hr h => ?_)
  · obtain ⟨z, m, rfl, _⟩ := h
    rfl
  · obtain ⟨z, m, rfl, hz, hm, hmz, q⟩ := h
    refine ⟨_, (pss_cons (ps_expr (pe_call (ok_check_letters T) (hr.mono (by decide)) (by rfl) T.f_check_letters.g T.f_check_letters.F.kp T.f_check_letters.b .nil passL (pa_cons (pv 0) pa_nil))) (pss_cons (ps_expr (pe_call (ok_check_value T) (hr.mono (by decide)) (by rfl) T.f_check_value.g T.f_check_value.F.kp T.f_check_value.b .nil passL (pa_cons (pv 0) (pa_cons (pv 1) pa_nil)))) (pss_cons (ps_set (i := 2) sc_stripped.nd rfl (Or.inl rfl) (pe_callTy call_tuple_of (by rfl) T.n_tuple (by decide +kernel) (pa_cons (pe_lc (own := [("letter", 3)]) (g := (gName 3)) (tt := tYes) (by rfl) sc_stripped.nd (pi_str (pv 0)) (blkOk_by (own := [("letter", 3)]) (N := ["letters", "some", "first", "letter"]) (sc := defScope s_stripped) (by decide +kernel)) (fun _ _ _ _ _ => (pg_name (i := 3) sc_stripped.nd rfl (Or.inl rfl))) (fun _ _ _ _ _ => pts_nil) (fun _ _ _ _ _ => by exact (pe_ifExp (pt_cmpR op_in_sign (pv 3) (pv 1) rfl) (pe_tup (pa_cons pe_int (pa_cons pe_str pa_nil))) (pe_tup (pa_cons pe_int (pa_cons (pv 3) pa_nil)))))) pa_nil))) (pss_one (ps_ret (pe_make T.mkC (ok_Machine_init T) (hr.mono (by decide)) (by rfl) T.g_Machine T.f_Machine_init.b .nil passL (pa_cons (pv 0) (pa_cons (pe_tup (pa_cons (pv 2) (pa_cons (pe_call (ok_copying_row T) (hr.mono (by decide)) (by rfl) T.f_copying_row.g T.f_copying_row.F.kp T.f_copying_row.b .nil pass0 (pa_cons (pv 0) (pa_cons pe_int pa_nil))) pa_nil))) pa_nil)))))))), ?_⟩
    refine ⟨_, rfl, _, .str z, rfl, .str z, l8_small0 hz, fun _ H1 s1 => ?_, fun h => absurd (l8_let z hz) (by rw [h]; exact Bool.false_ne_true)⟩
    refine ⟨_, rfl, _, rfl, z, _, .str m, rfl, .str m, (by show m.length ≤ 100000; omega), fun _ H2 s2 => ?_, fun e => absurd (isVal_of hmz) (by rw [e]; exact Bool.false_ne_true)⟩
    refine ⟨_, rfl, z, rfl, fun D hD => ?_⟩
    have s02 := s1.trans s2
    refine lc_rel walk_str (fun j v H' => ∃ c, (zs z)[j]? = some c ∧ Dp K (New H H') v (turnD (if c ∈ zs m then (0, []) else (1, [c])))) (fun _ _ _ _ s ⟨c, h1, h2⟩ => ⟨c, h1, Dp.same (new_trans s) h2⟩) hD (l8_lt hz) (fun _ _ => trivial) ?_ ?_
    · rintro i y H3 H4 hi sm ⟨o, hd⟩ ⟨rfl, c, hc, rfl⟩ kk
      refine ⟨rfl, ?_⟩
      unfold tYes
      refine iteT ⟨_, rfl, _, rfl, c, _, rfl, rfl, _, rfl, ?_⟩
      have key : ∀ (t : Nat × List Nat), t = (if c ∈ zs m then (0, []) else (1, [c])) → ∀ p, H4 p = none → ∃ c', (zs z)[i]? = some c' ∧ Dp K (New H (hid [D] (upd H4 p (.tup [.int (t.1 : Nat), .str (S t.2)])))) (.ref p) (turnD (if c' ∈ zs m then (0, []) else (1, [c']))) := by
        intro t et p hp
        refine ⟨c, str_at hc, ?_⟩
        rw [← et]
        exact Dp.tupNew (new_hid_at ((s02.trans sm).free hp) (by simp; exact (ne_of_none hd hp).symm) upd_same) (.cons (.int _) (.cons (.str _) .nil))
      by_cases e : c ∈ zs m
      · rw [show decide (c ∈ m.cps.toList) = true from decide_eq_true e]
        exact iteT ⟨by show 2 ≤ sizeLine; decide, fun p hp => kk _ _ (same_upd hp) (key (0, []) (by rw [if_pos e]) p hp)⟩
      · rw [show decide (c ∈ m.cps.toList) = false from decide_eq_false e]
        exact iteF ⟨_, rfl, by show 2 ≤ sizeLine; decide, fun p hp => kk _ _ (same_upd hp) (key (1, [c]) (by rw [if_neg e]) p hp)⟩
    · intro H3 xs sm hx hxn hv
      refine ⟨D, xs, rfl, .inl ⟨.inl (.inl hx), fun l hl => ?_⟩⟩
      have d1 : Dp K (upd H3 l (.tup xs)) (.ref l) (rowD ((zs z).map fun c => if c ∈ zs m then (0, []) else (1, [c]))) := by
        refine dp_new (H0 := H) (tup_new (ls := [D]) (s02.trans sm) hl (dpAll_of ?_ ?_))
        · rw [List.length_map, List.length_map, hxn, zs_length]
          rfl
        · intro j v d hj hd
          obtain ⟨c, h1, h2⟩ := hv j v hj
          rw [List.getElem?_map, List.getElem?_map, h1] at hd
          cases hd
          exact h2
      refine ⟨_, rfl, _, rfl, _, rfl, z, 1, rfl, hz, fun v H4 s4 hv4 => ⟨by show 2 ≤ sizeLine; decide, fun t ht => ?_⟩⟩
      have s5 := same_upd (o := .tup [V.ref l, v]) ht
      exact mk_M hz (strip_ok _ _) (by show 2 ≤ 6; decide) (Dp.tupNew upd_same (.cons (Dp.same (s4.trans s5) d1) (.cons (Dp.same s5 (dp_new hv4)) .nil))) fun x H6 _ s6 hM => q x H6 ((s02.trans sm).trans ((same_upd hl).trans (s4.trans (s5.trans s6)))) hM
end
end K1
set_option Elab.async false
set_option linter.all false
set_option maxRecDepth 100000
set_option maxHeartbeats 4000000
namespace K1
open PySem PySem.Spec PyProof.Rows L2 FX
section
variable {P : Program} {w : World} {K : PySem.W.Frag} {mg : Str → Option Value} {base : Heap} {A : Ad}
def sp_squeezed (K : PySem.W.Frag) (C : Addr) : Sp := fun vs H Q _ => ∃ (z m : Str), vs = [.str z, .str m] ∧ z ∈ L8 ∧ m.length ≤ 100 ∧ (∀ c ∈ zs m, c ∈ zs z) ∧ ∀ p H', Same H H' → IsM K C H' p z (squeezeR (zs z) (zs m)) → Q (.ref p) H'
def sqD (z m : List Nat) (i : Nat) : List PyData := rowD (turnsR z []) :: ((z.take i).map fun l => rowD (turnsR z (if l ∈ m then [l] else [])))
theorem ok_squeezed (T : Txt P K mg A) : FnOk P w K mg base CX0 7 A.a_squeezed A.d_squeezed ["letters", "some"] (sp_squeezed K A.C) := by
  refine T.f_squeezed.F.ok sc_squeezed (fun vs H Q E h => ?_) (fun cdv Ar outer s H vs Q E hr h => ?_)
  · obtain ⟨z, m, rfl, _⟩ := h
    rfl
  · obtain ⟨z, m, rfl, hz, hm, hmz, q⟩ := h
    refine ⟨_, (pss_cons (ps_expr (pe_call (ok_check_letters T) (hr.mono (by decide)) (by rfl) T.f_check_letters.g T.f_check_letters.F.kp T.f_check_letters.b .nil passL (pa_cons (pv 0) pa_nil))) (pss_cons (ps_expr (pe_call (ok_check_value T) (hr.mono (by decide)) (by rfl) T.f_check_value.g T.f_check_value.F.kp T.f_check_value.b .nil passL (pa_cons (pv 0) (pa_cons (pv 1) pa_nil)))) (pss_cons (ps_set (i := 2) sc_squeezed.nd rfl (Or.inl rfl) (pe_lst (pa_cons (pe_call (ok_copying_turns T) (hr.mono (by decide)) (by rfl) T.f_copying_turns.g T.f_copying_turns.F.kp T.f_copying_turns.b .nil pass0 (pa_cons (pv 0) (pa_cons pe_str pa_nil))) pa_nil))) (pss_cons (ps_for PassesOwn.never rfl (pi_str (pv 0)) (pg_name (i := 3) sc_squeezed.nd rfl (Or.inl rfl)) (pss_one (ps_expr (pe_bm PySem.F.plainAttrs_list PySem.F.slot_list_append PySem.F.type_list_append mt_append (pv 2) (pa_cons (pe_call (ok_copying_turns T) (hr.mono (by decide)) (by rfl) T.f_copying_turns.g T.f_copying_turns.F.kp T.f_copying_turns.b .nil pass0 (pa_cons (pv 0) (pa_cons (pe_ifExp (pt_cmpR op_in_sign (pv 3) (pv 1) rfl) (pv 3) pe_str) pa_nil))) pa_nil))))) (pss_one (ps_ret (pe_make T.mkC (ok_Machine_init T) (hr.mono (by decide)) (by rfl) T.g_Machine T.f_Machine_init.b .nil passL (pa_cons (pv 0) (pa_cons (pe_callTy call_tuple_of (by rfl) T.n_tuple (by decide +kernel) (pa_cons (pv 2) pa_nil)) pa_nil))))))))), ?_⟩
    refine ⟨_, rfl, _, .str z, rfl, .str z, l8_small0 hz, fun _ H1 s1 => ?_, fun h => absurd (l8_let z hz) (by rw [h]; exact Bool.false_ne_true)⟩
    refine ⟨_, rfl, _, rfl, z, _, .str m, rfl, .str m, (by show m.length ≤ 100000; omega), fun _ H2 s2 => ?_, fun e => absurd (isVal_of hmz) (by rw [e]; exact Bool.false_ne_true)⟩
    have s02 := s1.trans s2
    refine ⟨_, rfl, z, [], rfl, hz, fun v H3 s3 hv => ⟨by show 1 ≤ sizeLine; decide, fun D hD => ?_⟩⟩
    have D0 : H D = none := (s02.trans s3).free hD
    refine ⟨_, rfl, z, rfl, ?_⟩
    refine for_it walk_str (fun i σ H' => Same H H' ∧ ∃ o xs, σ = [some (.str z), some (.str m), some (.ref D), o] ∧ H' D = some (.lst xs) ∧ DpAll K (New H (hid [D] H')) xs (sqD (zs z) (zs m) i))
      ⟨Same.up (s02.trans s3) hD, none, [v], rfl, upd_same, ?_⟩ (fun _ _ _ _ _ => trivial) ?_ ?_
    · rw [hid_upd (by simp)]
      exact .cons (Dp.same (new_in2 s02 hD) hv) .nil
    · rintro i y σ H4 H5 hi ⟨sm, o, xs, rfl, hx, hd⟩ ⟨rfl, c, hc, rfl⟩
      have hcz := str_at hc
      refine ⟨_, rfl, .inl ⟨rfl, _, SqL.of hx⟩, _, rfl, _, rfl, _, rfl, c, _, rfl, rfl, _, rfl, ?_⟩
      have key : ∀ (sl : List Nat), sl = (if c ∈ zs m then [c] else []) → sp_copying_turns K ([.str z, .str (S sl)] ++ []) H5 (fun x H6 => ∃ l ys y, V.ref D = .ref l ∧ [x] = [y] ∧ H6 l = some (.lst ys) ∧ ys.length < sizeLine ∧ (Same H (upd H6 l (.lst (ys ++ [y]))) ∧ ∃ o xs, ([some (.str z), some (.str m), some (.ref D), some (V.str ⟨#[c]⟩)] : L2.St) = [some (.str z), some (.str m), some (.ref D), o] ∧ upd H6 l (.lst (ys ++ [y])) D = some (.lst xs) ∧ DpAll K (New H (hid [D] (upd H6 l (.lst (ys ++ [y]))))) xs (sqD (zs z) (zs m) (i + 1)))) E0 := by
        intro sl es
        refine ⟨z, sl, rfl, hz, fun v6 H6 s6 hv6 => ⟨D, xs, v6, rfl, rfl, s6 _ _ hx, ?_, Same.set (sm.trans s6) D0, _, xs ++ [v6], rfl, upd_same, ?_⟩⟩
        · have hl := DpAll.len hd
          rw [hl, sqD, List.length_cons, List.length_map, List.length_take]
          have := l8_le hz
          exact Nat.lt_of_le_of_lt (show _ ≤ 101 by rw [zs_length]; omega) (by decide)
        · rw [hid_upd (by simp)]
          have e1 : sqD (zs z) (zs m) (i + 1) = sqD (zs z) (zs m) i ++ [rowD (turnsR (zs z) sl)] := by
            rw [sqD, take_succ' hcz, List.map_append, es]
            rfl
          rw [e1]
          exact DpAll.app (DpAll.same (new_trans (hid_same fun b o _ e => s6 b o e)) hd) (.cons (Dp.same (new_in sm (by simp [hx])) hv6) .nil)
      by_cases e : c ∈ zs m
      · rw [show decide (c ∈ m.cps.toList) = true from decide_eq_true e]
        exact iteT ⟨_, rfl, key [c] (by rw [if_pos e])⟩
      · rw [show decide (c ∈ m.cps.toList) = false from decide_eq_false e]
        exact iteF (key [] (by rw [if_neg e]))
    · rintro σ H4 ⟨sm, o, xs, rfl, hx, hd⟩
      refine ⟨_, rfl, _, rfl, D, xs, rfl, .inl ⟨.inl (.inl hx), fun l hl => ?_⟩⟩
      have e1 : sqD (zs z) (zs m) z.cps.size = (squeezeR (zs z) (zs m)).map rowD := by
        rw [sqD, List.take_of_length_le (by simp [zs]), squeezeR, List.map_cons, List.map_map]
        rfl
      rw [e1] at hd
      refine mk_M hz (squeeze_ok _ _) (by rw [squeeze_len, zs_length]; have := (l8_len z hz).2; omega) (dp_new (H0 := H) (tup_new (ls := [D]) sm hl hd)) fun x H6 _ s6 hM => q x H6 (sm.trans ((same_upd hl).trans s6)) hM
end
end K1
set_option Elab.async false
set_option linter.all false
set_option maxRecDepth 100000
set_option maxHeartbeats 4000000
namespace K1
open PySem PySem.Spec PyProof.Rows L2 FX
section
variable {P : Program} {w : World} {K : PySem.W.Frag} {mg : Str → Option Value} {base : Heap} {A : Ad}
theorem units0 {k : Nat} {A : Around} (r : Room k A) : A.units < cLine := by have := r.un; omega
def sp_mapped (K : PySem.W.Frag) (C : Addr) : Sp := fun vs H Q _ => ∃ (z : Str) (v : V) (os : List (List Nat)), vs = [.str z, v] ∧ z ∈ L8 ∧ Dp K H v (.tuple (os.map fun o => .str (S o))) ∧ os.length = (zs z).length ∧ (∀ o ∈ os, o.length ≤ 1 ∧ ∀ c ∈ o, c ∈ zs z) ∧ ∀ p H', Same H H' → IsM K C H' p z (mapR os) → Q (.ref p) H'
theorem ok_mapped (T : Txt P K mg A) : FnOk P w K mg base CX0 7 A.a_mapped A.d_mapped ["letters", "outs"] (sp_mapped K A.C) := by
  refine T.f_mapped.F.ok sc_mapped (fun vs H Q E h => ?_) (fun cdv Ar outer s H vs Q E hr h => ?_)
  · obtain ⟨z, v, os, rfl, _⟩ := h
    rfl
  · obtain ⟨z, v, os, rfl, hz, hv, hl, ho, q⟩ := h
    refine ⟨_, (pss_cons (ps_expr (pe_call (ok_check_letters T) (hr.mono (by decide)) (by rfl) T.f_check_letters.g T.f_check_letters.F.kp T.f_check_letters.b .nil passL (pa_cons (pv 0) pa_nil))) (pss_cons (ps_if (pt_not (pt_val (pe_callB call_isi (by rfl) T.n_isinstance (by decide +kernel) (pa_cons (pv 1) (pa_cons (pe_bltn (v := .ty "tuple") (by rfl) T.n_tuple (by decide +kernel) rfl) pa_nil))))) (pss_one (ps_never)) pss_nil) (pss_one (ps_ret (pe_make T.mkC (ok_Machine_init T) (hr.mono (by decide)) (by rfl) T.g_Machine T.f_Machine_init.b .nil passL (pa_cons (pv 0) (pa_cons (pe_tup (pa_cons (pe_callTy call_tuple_of (by rfl) T.n_tuple (by decide +kernel) (pa_cons (pe_lc (own := [("out", 2)]) (g := (gName 2)) (tt := tYes) (by rfl) sc_mapped.nd (pi_tup (pv 1)) (blkOk_by (own := [("out", 2)]) (N := ["letters", "outs", "out"]) (sc := defScope s_mapped) (by decide +kernel)) (fun _ _ _ _ _ => (pg_name (i := 2) sc_mapped.nd rfl (Or.inl rfl))) (fun _ _ _ _ _ => pts_nil) (fun _ _ _ _ _ => by exact (pe_tup (pa_cons pe_int (pa_cons (pv 2) pa_nil))))) pa_nil)) pa_nil)) pa_nil))))))), ?_⟩
    refine ⟨_, rfl, _, .str z, rfl, .str z, l8_small0 hz, fun _ H1 s1 => ?_, fun h => absurd (l8_let z hz) (by rw [h]; exact Bool.false_ne_true)⟩
    obtain ⟨t, g1, g2⟩ := Dp.isB (Dp.same s1 hv) (c := "tuple") (by decide)
    obtain ⟨a, xs, rfl, hx, hd⟩ := Dp.tupOf (Dp.same s1 hv)
    refine ⟨_, rfl, _, _, _, _, _, rfl, .ty _, g1, g2, _, rfl, iteF ?_⟩
    have hxl : xs.length = (zs z).length := by rw [DpAll.len hd, List.length_map, hl]
    rw [zs_length] at hxl
    have l8 := l8_len z hz
    refine ⟨_, rfl, _, rfl, a, rfl, ⟨xs, hx⟩, fun D hD => ?_⟩
    refine lc_rel (walk_tup (xs := xs)) (fun j v H' => ∃ o, os[j]? = some o ∧ Dp K (New H H') v (turnD (0, o))) (fun _ _ _ _ s ⟨o, h1, h2⟩ => ⟨o, h1, Dp.same (new_trans s) h2⟩) hD (by rw [hxl]; exact Nat.lt_of_le_of_lt l8.2 (by decide)) (fun H' s' => SqT.same s' hx) ?_ ?_
    · rintro i y H2 H3 hi sm ⟨o, hd'⟩ ⟨rfl, hy⟩ kk
      obtain ⟨d, hd1, hd2⟩ := DpAll.get' hd hy
      rw [List.getElem?_map] at hd1
      cases ho' : os[i]? with
      | none => rw [ho'] at hd1; cases hd1
      | some ot =>
        rw [ho'] at hd1
        cases hd1
        obtain rfl := Dp.strOf hd2
        refine ⟨rfl, ?_⟩
        unfold tYes
        refine iteT ⟨_, rfl, by show 2 ≤ sizeLine; decide, fun p hp => kk _ _ (same_upd hp) ⟨ot, ho', ?_⟩⟩
        exact Dp.tupNew (new_hid_at ((s1.trans sm).free hp) (by simp; exact (ne_of_none hd' hp).symm) upd_same) (.cons (.int _) (.cons (.str _) .nil))
    · intro H2 ys sm hy hyn hv2
      refine ⟨D, ys, rfl, .inl ⟨.inl (.inl hy), fun l hl2 => ?_⟩⟩
      have d1 : Dp K (upd H2 l (.tup ys)) (.ref l) (rowD (os.map fun o => (0, o))) := by
        refine dp_new (H0 := H) (tup_new (ls := [D]) (s1.trans sm) hl2 (dpAll_of ?_ ?_))
        · rw [List.length_map, List.length_map, hyn, hxl, hl, zs_length]
        · intro j v d hj hd
          obtain ⟨o, h1, h2⟩ := hv2 j v hj
          rw [List.getElem?_map, List.getElem?_map, h1] at hd
          cases hd
          exact h2
      refine ⟨by show 1 ≤ sizeLine; decide, fun t ht => ?_⟩
      have s5 := same_upd (o := .tup [V.ref l]) ht
      exact mk_M hz (map_ok hl ho) (by show 1 ≤ 6; decide) (Dp.tupNew upd_same (.cons (Dp.same s5 d1) .nil)) fun x H6 _ s6 hM => q x H6 ((s1.trans sm).trans ((same_upd hl2).trans (s5.trans s6))) hM
/-! places of letters -/
abbrev ranks (r : Nat → Nat) (x : List Nat) : List Int := x.map fun c => ((r c : Nat) : Int)
theorem ranks_of {t : List Nat} {r : Nat → Nat} {ys : List V} (hn : ys.length = t.length) (h : ∀ (j : Nat) v, ys[j]? = some v → ∃ c, t[j]? = some c ∧ v = .int ((r c : Nat) : Int)) : ys = (ranks r t).map V.int := by
  refine List.ext_getElem? fun j => ?_
  rw [List.map_map, List.getElem?_map]
  cases e : ys[j]? with
  | none =>
    have q1 : ys.length ≤ j := List.getElem?_eq_none_iff.mp e
    rw [List.getElem?_eq_none (by omega)]
    rfl
  | some v =>
    obtain ⟨c, h1, h2⟩ := h j v e
    rw [h1, h2]
    rfl
abbrev ltI (x y : List Int) : Bool := lexB (fun a b => decide (a < b)) (decide (x.length < y.length)) x y
abbrev gtI (x y : List Int) : Bool := lexB (fun a b => decide (b < a)) (decide (y.length < x.length)) x y
def cmpI (x y : List Int) : Int := if x = y then 0 else if ltI x y = true then -1 else 1
theorem ints_eq : ∀ (ns ms : List Int), PyData.eqvAll (ns.map PyData.int) (ms.map PyData.int) = decide (ns = ms)
  | [], [] => by simp [PyData.eqvAll]
  | [], _ :: _ => by simp [PyData.eqvAll]
  | _ :: _, [] => by simp [PyData.eqvAll]
  | n :: r, m :: s => by
    have ih := ints_eq r s
    simp only [List.map_cons, PyData.eqvAll, ih, PyData.eqv]
    by_cases e : n = m
    · subst e; simp
    · simp [e]
theorem ints_shaped (ns : List Int) : SeqAt.shaped (.list (ns.map PyData.int)) = true := by
  refine shaped_of ?_ ?_
  · simp only [PyData.canLay0]
    exact layAll_of fun d hd => by obtain ⟨p, _, rfl⟩ := List.mem_map.mp hd; simp [PyData.canLay0]
  · have h1 := depthAll_of (ds := ns.map PyData.int) (n := 0) fun d hd => by obtain ⟨p, _, rfl⟩ := List.mem_map.mp hd; simp [PyData.depth]
    simp only [PyData.depth]
    omega
def sp_compare (K : PySem.W.Frag) (C : Addr) : Sp := fun vs H Q _ => ∃ (z a b : Str), vs = [.str z, .str a, .str b] ∧ z ∈ L8 ∧ a.length ≤ 1000 ∧ b.length ≤ 1000 ∧ (∀ c ∈ zs a, c ∈ zs z) ∧ (∀ c ∈ zs b, c ∈ zs z) ∧ ∀ H', Same H H' → Q (.int (cmpI (ranks (ix (zs z)) (zs a)) (ranks (ix (zs z)) (zs b)))) H'
theorem ok_compare (T : Txt P K mg A) : FnOk P w K mg base CX0 3 A.a_compare A.d_compare ["letters", "one", "other"] (sp_compare K A.C) := by
  refine T.f_compare.F.ok sc_compare (fun vs H Q E h => ?_) (fun cdv Ar outer s H vs Q E hr h => ?_)
  · obtain ⟨z, a, b, rfl, _⟩ := h
    rfl
  · obtain ⟨z, a, b, rfl, hz, ha, hb, haz, hbz, q⟩ := h
    refine ⟨_, (pss_cons (ps_expr (pe_call (ok_check_letters T) (hr.mono (by decide)) (by rfl) T.f_check_letters.g T.f_check_letters.F.kp T.f_check_letters.b .nil passL (pa_cons (pv 0) pa_nil))) (pss_cons (ps_expr (pe_call (ok_check_value T) (hr.mono (by decide)) (by rfl) T.f_check_value.g T.f_check_value.F.kp T.f_check_value.b .nil passL (pa_cons (pv 0) (pa_cons (pv 1) pa_nil)))) (pss_cons (ps_expr (pe_call (ok_check_value T) (hr.mono (by decide)) (by rfl) T.f_check_value.g T.f_check_value.F.kp T.f_check_value.b .nil passL (pa_cons (pv 0) (pa_cons (pv 2) pa_nil)))) (pss_cons (ps_setLc (i := 3) (own := [("letter", 5)]) (g := (gName 5)) (tt := tYes) (by rfl) sc_compare.nd rfl rfl (sw_true rfl rfl rfl (by decide +kernel)) (pi_str (pv 1)) (blkOk_by (own := [("letter", 5)]) (N := ["letters", "one", "other", "places", "others", "letter"]) (sc := defScope s_compare) (by decide +kernel)) (fun _ _ _ _ _ => (pg_name (i := 5) sc_compare.nd rfl (Or.inl rfl))) (fun _ _ _ _ _ => pts_nil) (fun _ _ _ _ _ => by exact (pe_m1 PySem.F.slot_str_index PySem.F.type_str_index mt_sindex (pv 0) (pv 5)))) (pss_cons (ps_setLc (i := 4) (own := [("letter", 5)]) (g := (gName 5)) (tt := tYes) (by rfl) sc_compare.nd rfl rfl (sw_true rfl rfl rfl (by decide +kernel)) (pi_str (pv 2)) (blkOk_by (own := [("letter", 5)]) (N := ["letters", "one", "other", "places", "others", "letter"]) (sc := defScope s_compare) (by decide +kernel)) (fun _ _ _ _ _ => (pg_name (i := 5) sc_compare.nd rfl (Or.inl rfl))) (fun _ _ _ _ _ => pts_nil) (fun _ _ _ _ _ => by exact (pe_m1 PySem.F.slot_str_index PySem.F.type_str_index mt_sindex (pv 0) (pv 5)))) (pss_cons (ps_if (pt_cmpR (op_eqD hr.units) (pv 3) (pv 4) (nomark _)) (pss_one (ps_ret pe_int)) pss_nil) (pss_one (ps_ret (pe_ifExp (pt_cmpR (op_ltL (units0 hr)) (pv 3) (pv 4) (nomark _)) (pe_un un_neg pe_int) pe_int))))))))), ?_⟩
    refine ⟨_, rfl, _, .str z, rfl, .str z, l8_small0 hz, fun _ H1 s1 => ?_, fun h => absurd (l8_let z hz) (by rw [h]; exact Bool.false_ne_true)⟩
    refine ⟨_, rfl, _, rfl, z, _, .str a, rfl, .str a, (by show a.length ≤ 100000; omega), fun _ H2 s2 => ?_, fun e => absurd (isVal_of haz) (by rw [e]; exact Bool.false_ne_true)⟩
    refine ⟨_, rfl, _, rfl, z, _, .str b, rfl, .str b, (by show b.length ≤ 100000; omega), fun _ H3 s3 => ?_, fun e => absurd (isVal_of hbz) (by rw [e]; exact Bool.false_ne_true)⟩
    have s03 := (s1.trans s2).trans s3
    refine ⟨_, rfl, a, rfl, fun D hD => ?_⟩
    refine lc_rel (walk_str (z := a)) (fun j v _ => ∃ c, (zs a)[j]? = some c ∧ v = .int ((ix (zs z) c : Nat) : Int)) (fun _ _ _ _ _ h => h) hD (by show a.length < _; exact Nat.lt_of_le_of_lt ha (by decide)) (fun _ _ => trivial) ?_ ?_
    · rintro i y H4 H5 hi sm ⟨o, hd⟩ ⟨rfl, c, hc, rfl⟩ kk
      have hca := str_at hc
      refine ⟨rfl, ?_⟩
      unfold tYes
      exact iteT ⟨_, rfl, ⟨_, rfl⟩, _, rfl, z, S [c], ix (zs z) c, [], rfl, rfl, l8_index z hz c (haz c (List.mem_of_getElem? hca)), kk _ _ (Same.refl _) ⟨c, hca, rfl⟩⟩
    · intro H4 xs sm hx hxn hv
      have ex := ranks_of (r := ix (zs z)) (t := zs a) (by rw [hxn, zs_length]; rfl) hv
      refine ⟨_, rfl, b, rfl, fun D2 hD2 => ?_⟩
      refine lc_rel (walk_str (z := b)) (fun j v _ => ∃ c, (zs b)[j]? = some c ∧ v = .int ((ix (zs z) c : Nat) : Int)) (fun _ _ _ _ _ h => h) hD2 (by show b.length < _; exact Nat.lt_of_le_of_lt hb (by decide)) (fun _ _ => trivial) ?_ ?_
      · rintro i y H5 H6 hi sm5 ⟨o, hd⟩ ⟨rfl, c, hc, rfl⟩ kk
        have hcb := str_at hc
        refine ⟨rfl, ?_⟩
        unfold tYes
        exact iteT ⟨_, rfl, ⟨_, rfl⟩, _, rfl, z, S [c], ix (zs z) c, [], rfl, rfl, l8_index z hz c (hbz c (List.mem_of_getElem? hcb)), kk _ _ (Same.refl _) ⟨c, hcb, rfl⟩⟩
      · intro H5 ys sm5 hy hyn hv5
        have ey := ranks_of (r := ix (zs z)) (t := zs b) (by rw [hyn, zs_length]; rfl) hv5
        subst ex ey
        have lx : SqL K H5 D ((ranks (ix (zs z)) (zs a)).map V.int) := SqL.of (sm5 _ _ hx)
        have ly : SqL K H5 D2 ((ranks (ix (zs z)) (zs b)).map V.int) := SqL.of hy
        refine ⟨_, rfl, _, rfl, _, _, .lst lx (dpInts _), .lst ly (dpInts _), ints_shaped _, ints_shaped _, _, rfl, ?_⟩
        have q := q _ (s03.trans (sm.trans sm5))
        rw [show PyData.eqv (.list ((ranks (ix (zs z)) (zs a)).map PyData.int)) (.list ((ranks (ix (zs z)) (zs b)).map PyData.int)) = _ from (by simp only [PyData.eqv]; exact ints_eq _ _)]
        unfold cmpI at q
        by_cases e : ranks (ix (zs z)) (zs a) = ranks (ix (zs z)) (zs b)
        · rw [decide_eq_true e]
          rw [if_pos e] at q
          exact iteT q
        · rw [decide_eq_false e]
          rw [if_neg e] at q
          refine iteF ⟨_, rfl, _, rfl, D, D2, _, _, rfl, rfl, lx, ly, _, rfl, ?_⟩
          cases e2 : lexB (fun a b => decide (a < b)) ((fun a b => decide (a < b)) (ranks (ix (zs z)) (zs a)).length (ranks (ix (zs z)) (zs b)).length) (ranks (ix (zs z)) (zs a)) (ranks (ix (zs z)) (zs b)) with
          | true =>
            rw [show ltI (ranks (ix (zs z)) (zs a)) (ranks (ix (zs z)) (zs b)) = true from e2, if_pos rfl] at q
            exact iteT ⟨1, rfl, q⟩
          | false =>
            rw [show ltI (ranks (ix (zs z)) (zs a)) (ranks (ix (zs z)) (zs b)) = false from e2, if_neg (by decide)] at q
            exact iteF q
/-! len and == of machines -/
def sp_len (K : PySem.W.Frag) (C : Addr) : Sp := fun vs H Q _ => ∃ (p : Addr) (z : Str) (R : Rows), vs = [.ref p] ∧ IsM K C H p z R ∧ Q (.int (R.length : Nat)) H
theorem ok_Machine_len (T : Txt P K mg A) : FnOk P w K mg base CX0 1 A.a_Machine_len A.d_Machine_len ["self"] (sp_len K A.C) := by
  refine T.f_Machine_len.F.ok sc_Machine_len (fun vs H Q E h => ?_) (fun cdv Ar outer s H vs Q E hr h => ?_)
  · obtain ⟨p, z, R, rfl, _⟩ := h
    rfl
  · obtain ⟨p, z, R, rfl, ⟨⟨dx, r, hp, hd⟩, _, _, _⟩, q⟩ := h
    refine ⟨_, (pss_one (ps_ret (pe_callB call_len_seq (by rfl) T.n_len (by decide +kernel) (pa_cons (pe_fld (pv 0) rfl) pa_nil)))), ?_⟩
    obtain ⟨t, xs, e, hs, ha⟩ := Dp.tupOf hd
    cases e
    refine ⟨_, rfl, p, A.C, dx, _, _, rfl, hp, T.cl, T.no_rows, mfs_rows _ _, r, xs, rfl, .inr hs, ?_⟩
    rw [DpAll.len ha, List.length_map]
    exact q
theorem l8_code : ∀ z ∈ L8, ∀ c ∈ zs z, c < 1114112 := by decide +kernel
theorem rowsD_lay {z : Str} (hz : z ∈ L8) {R : Rows} (M : MachOk (zs z) R) : (rowsD R).canLay0 = true := by
  simp only [rowsD, PyData.canLay0]
  refine layAll_of fun d hd => ?_
  obtain ⟨row, hrow, rfl⟩ := List.mem_map.mp hd
  simp only [rowD, PyData.canLay0]
  refine layAll_of fun d hd => ?_
  obtain ⟨t, ht, rfl⟩ := List.mem_map.mp hd
  have h : PyData.strOk (S t.2) = true := by
    show (S t.2).cps.all _ = true
    rw [Array.all_eq_true']
    intro c hc
    have hc' : c ∈ t.2 := by simpa [S] using hc
    exact decide_eq_true (l8_code z hz c (M.out row hrow t ht c hc'))
  simp [turnD, PyData.canLay0, PyData.canLayAll0, h]
theorem rowsD_depth (R : Rows) : (rowsD R).depth ≤ 64 := by
  have h : PyData.depthAll (R.map rowD) ≤ 2 := depthAll_of fun d hd => by
    obtain ⟨row, _, rfl⟩ := List.mem_map.mp hd
    have h2 : PyData.depthAll (row.map turnD) ≤ 1 := depthAll_of fun d hd => by
      obtain ⟨t, _, rfl⟩ := List.mem_map.mp hd
      simp [turnD, PyData.depth, PyData.depthAll]
    simp only [rowD, PyData.depth]
    omega
  simp only [rowsD, PyData.depth]
  omega
theorem rowsD_shaped {z : Str} (hz : z ∈ L8) {R : Rows} (M : MachOk (zs z) R) : SeqAt.shaped (rowsD R) = true := shaped_of (rowsD_lay hz M) (rowsD_depth R)
def sp_eq (K : PySem.W.Frag) (C : Addr) : Sp := fun vs H Q _ => ∃ (p q : Addr) (z z' : Str) (R : Rows) (dx2 r2 : Addr), vs = [.ref p, .ref q] ∧ IsM K C H p z R ∧ H q = some (.ins C dx2 (mfs z' r2)) ∧ (z = z' → Dp K H (.ref r2) (rowsD R)) ∧ Q (.bl (decide (z = z'))) H
theorem ok_Machine_eq (T : Txt P K mg A) : FnOk P w K mg base CX0 1 A.a_Machine_eq A.d_Machine_eq ["self", "other"] (sp_eq K A.C) := by
  refine T.f_Machine_eq.F.ok sc_Machine_eq (fun vs H Q E h => ?_) (fun cdv Ar outer s H vs Q E hr h => ?_)
  · obtain ⟨p, p2, z, z', R, dx2, r2, rfl, _⟩ := h
    rfl
  · obtain ⟨p, p2, z, z', R, dx2, r2, rfl, h1, hp2, hzz, q⟩ := h
    refine ⟨_, (pss_one (ps_ret (pe_and (pe_callB call_isi (by rfl) T.n_isinstance (by decide +kernel) (pa_cons (pv 1) (pa_cons (pe_glob (v := .ref A.C) rfl T.g_Machine rfl) pa_nil))) (pe_and (pe_cmpR op_eq (pe_fld (pv 0) rfl) (pe_fld (pv 1) rfl) (nomark _)) (pe_one (pe_cmpR (op_eqD hr.units) (pe_fld (pv 0) rfl) (pe_fld (pv 1) rfl) (nomark _))))))), ?_⟩
    obtain ⟨dx, r, hp, hd⟩ := h1.at_
    refine ⟨_, rfl, _, _, _, _, true, rfl, .own _, .base (.ins hp2 T.cl T.iA T.iN T.iT T.iM), kit_self, _, rfl, iteT ?_⟩
    refine ⟨_, rfl, p, A.C, dx, _, _, rfl, hp, T.cl, T.no_letters, mfs_letters _ _, _, rfl, p2, A.C, dx2, _, _, rfl, hp2, T.cl, T.no_letters, mfs_letters _ _, rfl, _, rfl, ?_⟩
    by_cases e : z = z'
    · have hd2 := hzz e
      subst e
      rw [show decide (V.str z = V.str z) = true by simp]
      refine iteT ⟨_, rfl, p, A.C, dx, _, _, rfl, hp, T.cl, T.no_rows, mfs_rows _ _, _, rfl, p2, A.C, dx2, _, _, rfl, hp2, T.cl, T.no_rows, mfs_rows _ _, rowsD R, rowsD R, hd, hd2, rowsD_shaped h1.hz h1.ok, rowsD_shaped h1.hz h1.ok, ?_⟩
      rw [SeqAt.eqv_refl _ (rowsD_lay h1.hz h1.ok)]
      simpa using q
    · rw [show decide (V.str z = V.str z') = false by simp [e]]
      rw [decide_eq_false e] at q
      exact iteF q
end
end K1
set_option Elab.async false
set_option linter.all false
set_option maxRecDepth 100000
set_option maxHeartbeats 4000000
namespace K1
open PySem PySem.Spec PyProof.Rows L2 FX
section
variable {P : Program} {w : World} {K : PySem.W.Frag} {mg : Str → Option Value} {base : Heap} {A : Ad}
/-! what the law draws -/
theorem pos1000003 : (0 : Int) < 1000003 := by decide
theorem pos999983 : (0 : Int) < 999983 := by decide
theorem pos65521 : (0 : Int) < 65521 := by decide
theorem pos2147483647 : (0 : Int) < 2147483647 := by decide
theorem pos2147483629 : (0 : Int) < 2147483629 := by decide
theorem pos8 : (0 : Int) < 8 := by decide
theorem pos5 : (0 : Int) < 5 := by decide
theorem pos9 : (0 : Int) < 9 := by decide
theorem pos3 : (0 : Int) < 3 := by decide
theorem pos500 : (0 : Int) < 500 := by decide
theorem pos81 : (0 : Int) < 81 := by decide
theorem pos16 : (0 : Int) < 16 := by decide
theorem pos2 : (0 : Int) < 2 := by decide
theorem cut_te {te : TE} {σ : L2.St} {H : Hp} {Q : VK} (G : V → Hp → Prop) (h : ∀ x H1, G x H1 → Q x H1) (k : ∀ Q' : VK, (∀ x H1, G x H1 → Q' x H1) → te σ H Q') : te σ H Q := k Q h
def Scr (K : PySem.W.Frag) (H : Hp) (a : Addr) (ns : List Int) : Prop := SqL K H a (ns.map V.int) ∧ ns.length ≤ 63
theorem Scr.same {H H' : Hp} {a : Addr} {ns : List Int} (h : Scr K H a ns) (s : Same H H') : Scr K H' a ns := ⟨s.seq h.1, h.2⟩
theorem cutAll (xs : List V) (h : xs.length ≤ 63) : cutV xs none (some 63) = xs := by
  unfold cutV
  rw [HT.sIx_none, show HT.sIx xs.length xs.length (some 63) = min 63 xs.length from HT.sIx_nat xs.length xs.length 63, Nat.min_eq_right h, List.drop_zero, Nat.sub_zero]
  exact List.take_length
theorem ints_eqv (ns : List Int) : PyData.eqv (.list (ns.map PyData.int)) (.list []) = ns.isEmpty := by
  cases ns <;> simp [PyData.eqv, PyData.eqvAll]
def sp_number (K : PySem.W.Frag) : Sp := fun vs H Q _ => ∃ (a : Addr) (ns : List Int) (k : Int), vs = [.ref a, .int k] ∧ Scr K H a ns ∧ 0 ≤ k ∧ k ≤ 10000 ∧ ∀ r H', Same H H' → 0 ≤ r → r < 4611686018427387904 → Q (.int r) H'
theorem ok_law_number (T : Txt P K mg A) : FnOk P w K mg base CX0 1 A.a_law_number A.d_law_number ["script", "index"] (sp_number K) := by
  refine T.f_law_number.F.ok sc_law_number (fun vs H Q E h => ?_) (fun cdv Ar outer s H vs Q E hr h => ?_)
  · obtain ⟨a, ns, k, rfl, _⟩ := h
    rfl
  · obtain ⟨a, ns, k, rfl, ⟨hS, hn⟩, k0, k1, q⟩ := h
    refine ⟨_, (pss_cons (ps_set (i := 2) sc_law_number.nd rfl (Or.inl rfl) (pe_ifExp (pt_cmpR (op_neD hr.units) (pv 0) (pe_lst pa_nil) (nomark _)) (pe_slice sl_list (pv 0) po_none (po_some pe_int)) (pe_lst (pa_cons pe_int pa_nil)))) (pss_cons (ps_set (i := 3) sc_law_number.nd rfl (Or.inl rfl) (pe_op op_add (pe_ix ix_list (pv 2) (pe_op op_mod (pe_callTy call_int1 (by rfl) T.n_int (by decide +kernel) (pa_cons (pv 1) pa_nil)) (pe_callB call_len_seq (by rfl) T.n_len (by decide +kernel) (pa_cons (pv 2) pa_nil))) (fun _ _ => rfl)) (pe_op op_mul pe_int (pe_op op_fdiv (pv 1) (pe_callB call_len_seq (by rfl) T.n_len (by decide +kernel) (pa_cons (pv 2) pa_nil)))))) (pss_cons (ps_par (i := 4) (j := 5) (by rfl) sc_law_number.nd rfl rfl (by decide) rfl rfl (pa_cons (pe_op op_mod (pe_callTy call_int1 (by rfl) T.n_int (by decide +kernel) (pa_cons (pv 3) pa_nil)) pe_int) (pa_cons (pe_op op_mod (pe_callTy call_int1 (by rfl) T.n_int (by decide +kernel) (pa_cons (pe_op op_fdiv (pv 3) pe_int) pa_nil)) pe_int) pa_nil)) (by rfl)) (pss_cons (ps_set (i := 6) sc_law_number.nd rfl (Or.inl rfl) (pe_op op_mod (pe_callTy call_int1 (by rfl) T.n_int (by decide +kernel) (pa_cons (pe_callB (cr_sum rfl) (by rfl) T.n_sum (by decide +kernel) (pa_cons (pv 2) pa_nil)) pa_nil)) pe_int)) (pss_cons (ps_set (i := 7) sc_law_number.nd rfl (Or.inl rfl) (pe_op op_mod (pe_callTy call_int1 (by rfl) T.n_int (by decide +kernel) (pa_cons (pe_op op_add (pe_op op_add (pe_op op_mul (pe_op op_add (pv 4) (pe_op op_mul pe_int (pv 1))) pe_int) (pe_op op_mul pe_int (pv 5))) (pv 6)) pa_nil)) pe_int)) (pss_one (ps_ret (pe_op op_add (pe_op op_mul (pe_op op_mod (pe_callTy call_int1 (by rfl) T.n_int (by decide +kernel) (pa_cons (pe_op op_mul (pv 7) (pe_op op_add (pe_op op_add (pv 7) (pe_op op_mul pe_int (pv 1))) pe_int)) pa_nil)) pe_int) pe_int) (pv 5))))))))), ?_⟩
    unfold tSeq
    unfold tAsg
    refine cut_te (fun x H1 => ∃ (l : Addr) (cs : List Int), x = .ref l ∧ Same H H1 ∧ SqL K H1 l (cs.map V.int) ∧ 1 ≤ cs.length ∧ cs.length ≤ 63) ?_ ?_
    · rintro _ H1 ⟨l, cs, rfl, s1, hl, c1, c63⟩
      have lc : (cs.map V.int).length = cs.length := by simp
      have hm0 : 0 ≤ k % (cs.length : Int) := Int.emod_nonneg _ (by omega)
      have hm1 : k % (cs.length : Int) < cs.length := Int.emod_lt_of_pos _ (by omega)
      obtain ⟨j, hj⟩ : ∃ j : Nat, k % (cs.length : Int) = (j : Int) := ⟨(k % (cs.length : Int)).toNat, by omega⟩
      have hjl : j < cs.length := by omega
      have hat : atI (cs.map V.int) (k % ((cs.map V.int).length : Int)) = some (.int cs[j]) := by
        rw [lc, hj]
        refine atI_nat ?_
        rw [List.getElem?_map, List.getElem?_eq_getElem hjl]
        rfl
      have hpos : (0 : Int) < ((cs.map V.int).length : Int) := by rw [lc]; omega
      have hbig : ((cs.map V.int).length : Int) < 1073741824 := by rw [lc]; omega
      refine ⟨_, rfl, _, rfl, .inl ⟨_, rfl, _, rfl, l, _, rfl, .inl hl, k, _, rfl, rfl, hpos, l, _, _, _, rfl, rfl, hl, hat, _, rfl, _, rfl, l, _, rfl, .inl hl, k, _, rfl, rfl, ⟨hpos, hbig⟩, 13, _, rfl, rfl, .inl ⟨by decide, by decide⟩, _, _, rfl, rfl, ?_⟩⟩
      generalize cs[j] + 13 * (k / ((cs.map V.int).length : Int)) = cell
      refine ⟨_, rfl, .inl ⟨_, rfl, _, _, rfl, rfl, pos1000003, _, rfl, _, _, rfl, rfl, ⟨by decide, by decide⟩, .inl ⟨_, rfl, _, _, rfl, rfl, pos999983, _, _, rfl, ?_⟩⟩⟩
      have a1 : 0 ≤ cell % 1000003 := Int.emod_nonneg _ (by decide)
      have a2 : cell % 1000003 < 1000003 := Int.emod_lt_of_pos _ (by decide)
      have b1 : 0 ≤ cell / 1000003 % 999983 := Int.emod_nonneg _ (by decide)
      have b2 : cell / 1000003 % 999983 < 999983 := Int.emod_lt_of_pos _ (by decide)
      generalize cell % 1000003 = low at a1 a2
      generalize cell / 1000003 % 999983 = high at b1 b2
      refine ⟨_, rfl, l, cs, rfl, hl, .inl ⟨_, rfl, _, _, rfl, rfl, pos65521, ?_⟩⟩
      generalize cs.sum % 65521 = total
      refine ⟨_, rfl, _, rfl, _, _, rfl, rfl, .inl ⟨by decide, by decide⟩, _, _, rfl, rfl, _, _, rfl, rfl, .inr ⟨by decide, by decide⟩, _, rfl, _, _, rfl, rfl, .inl ⟨by decide, by decide⟩, _, _, rfl, rfl, _, rfl, _, _, rfl, rfl, .inl ⟨_, rfl, _, _, rfl, rfl, pos2147483647, ?_⟩⟩
      generalize hB : ((low + 977 * k) * 48271 + 31 * high + total) % 2147483647 = blend
      have c1 : 0 ≤ blend := by rw [← hB]; exact Int.emod_nonneg _ (by decide)
      have c2 : blend < 2147483647 := by rw [← hB]; exact Int.emod_lt_of_pos _ (by decide)
      refine ⟨_, rfl, _, rfl, _, rfl, _, _, rfl, rfl, .inl ⟨by decide, by decide⟩, _, _, rfl, rfl, _, _, rfl, rfl, _, _, rfl, rfl, .inl ⟨by omega, by omega⟩, .inl ⟨_, rfl, _, _, rfl, rfl, pos2147483629, _, _, rfl, rfl, .inr ⟨by decide, by decide⟩, _, rfl, _, _, rfl, rfl, ?_⟩⟩
      have d1 : 0 ≤ blend * (blend + 31 * k + 7) % 2147483629 := Int.emod_nonneg _ (by decide)
      have d2 : blend * (blend + 31 * k + 7) % 2147483629 < 2147483629 := Int.emod_lt_of_pos _ (by decide)
      exact q _ _ s1 (by omega) (by omega)
    · intro Q' hQ
      refine ⟨_, rfl, Nat.zero_le _, fun e he => ⟨.list (ns.map PyData.int), .list [], .lst ((same_upd he).seq hS) (dpInts ns), Dp.lstNew upd_same .nil, ints_shaped ns, by decide, _, rfl, ?_⟩⟩
      rw [ints_eqv]
      cases ns with
      | nil =>
        refine iteF ⟨by show 1 ≤ sizeLine; decide, fun l hl => hQ _ _ ⟨l, [5], rfl, Same.up (same_upd he) hl, .inl (.inl upd_same), by decide, by decide⟩⟩
      | cons n r =>
        refine iteT ⟨_, rfl, 63, rfl, a, _, rfl, (same_upd he).seq hS, fun l hl => hQ _ _ ⟨l, n :: r, rfl, Same.up (same_upd he) hl, .inl (.inl ?_), by simp, hn⟩⟩
        rw [cutAll _ (by rw [List.length_map]; exact hn)]
        exact upd_same
def sp_lletters (K : PySem.W.Frag) : Sp := fun vs H Q _ => ∃ (a : Addr) (ns : List Int) (k : Int), vs = [.ref a, .int k] ∧ Scr K H a ns ∧ 0 ≤ k ∧ k ≤ 10000 ∧ ∀ z H', Same H H' → z ∈ L8 → Q (.str z) H'
theorem l8_at : ∀ j : Nat, j < 8 → ∃ z, ([("ab" : Str), "ba", "abc", "_ab", "Aa", "cab_", "ab", "Zz_"][j]?) = some z ∧ z ∈ L8
  | 0, _ => ⟨_, rfl, by decide +kernel⟩
  | 1, _ => ⟨_, rfl, by decide +kernel⟩
  | 2, _ => ⟨_, rfl, by decide +kernel⟩
  | 3, _ => ⟨_, rfl, by decide +kernel⟩
  | 4, _ => ⟨_, rfl, by decide +kernel⟩
  | 5, _ => ⟨_, rfl, by decide +kernel⟩
  | 6, _ => ⟨_, rfl, by decide +kernel⟩
  | 7, _ => ⟨_, rfl, by decide +kernel⟩
  | n + 8, h => absurd h (by omega)
theorem ok_law_letters (T : Txt P K mg A) : FnOk P w K mg base CX0 2 A.a_law_letters A.d_law_letters ["script", "at"] (sp_lletters K) := by
  refine T.f_law_letters.F.ok sc_law_letters (fun vs H Q E h => ?_) (fun cdv Ar outer s H vs Q E hr h => ?_)
  · obtain ⟨a, ns, k, rfl, _⟩ := h
    rfl
  · obtain ⟨a, ns, k, rfl, hS, k0, k1, q⟩ := h
    refine ⟨_, (pss_one (ps_ret (pe_ix ix_tup (pe_tup (pa_cons pe_str (pa_cons pe_str (pa_cons pe_str (pa_cons pe_str (pa_cons pe_str (pa_cons pe_str (pa_cons pe_str (pa_cons pe_str pa_nil))))))))) (pe_op op_mod (pe_callTy call_int1 (by rfl) T.n_int (by decide +kernel) (pa_cons (pe_call (ok_law_number T) (hr.mono (by decide)) (by rfl) T.f_law_number.g T.f_law_number.F.kp T.f_law_number.b .nil pass0 (pa_cons (pv 0) (pa_cons (pv 1) pa_nil))) pa_nil)) pe_int) (fun _ _ => rfl)))), ?_⟩
    refine ⟨by show 8 ≤ sizeLine; decide, fun t ht => ⟨_, rfl, _, rfl, a, ns, k, rfl, hS.same (same_upd ht), k0, k1, fun r H2 s2 r0 r1 => .inl ⟨_, rfl, _, _, rfl, rfl, pos8, ?_⟩⟩⟩
    have m0 : 0 ≤ r % 8 := Int.emod_nonneg _ (by decide)
    have m1 : r % 8 < 8 := Int.emod_lt_of_pos _ (by decide)
    obtain ⟨j, hj⟩ : ∃ j : Nat, r % 8 = (j : Int) := ⟨(r % 8).toNat, by omega⟩
    obtain ⟨z, hz1, hz2⟩ := l8_at j (by omega)
    refine ⟨t, _, _, .str z, rfl, rfl, .inl (.inl (s2 _ _ upd_same)), ?_, q z _ ((same_upd ht).trans s2) hz2⟩
    rw [hj]
    refine atI_nat ?_
    show ([("ab" : Str), "ba", "abc", "_ab", "Aa", "cab_", "ab", "Zz_"].map V.str)[j]? = _
    rw [List.getElem?_map, hz1]
    rfl
end
end K1
set_option Elab.async false
set_option linter.all false
set_option maxRecDepth 100000
set_option maxHeartbeats 4000000
namespace K1
open PySem PySem.Spec PyProof.Rows L2 FX
section
variable {P : Program} {w : World} {K : PySem.W.Frag} {mg : Str → Option Value} {base : Heap} {A : Ad}
theorem zs_app (x y : Str) : zs (x ++ y) = zs x ++ zs y := by
  show (x.cps ++ y.cps).toList = _
  rw [Array.toList_append]
  rfl
theorem len_app (x y : Str) : (x ++ y).length = x.length + y.length := by
  rw [← zs_length, zs_app, List.length_append, zs_length, zs_length]
/-- a letter at a drawn place -/
theorem letter_at {z : Str} (hz : z ∈ L8) (r : Int) : ∃ c, c ∈ zs z ∧ atI z.cps.toList (r % (z.length : Int)) = some c := by
  have hl := (l8_len z hz).1
  have m0 : 0 ≤ r % (z.length : Int) := Int.emod_nonneg _ (by omega)
  have m1 : r % (z.length : Int) < z.length := Int.emod_lt_of_pos _ (by omega)
  obtain ⟨j, hj⟩ : ∃ j : Nat, r % (z.length : Int) = (j : Int) := ⟨(r % (z.length : Int)).toNat, by omega⟩
  have hjl : j < (zs z).length := by rw [zs_length]; omega
  refine ⟨(zs z)[j], List.getElem_mem hjl, ?_⟩
  rw [hj]
  exact atI_nat (List.getElem?_eq_getElem hjl)
theorem l8_pos {z : Str} (hz : z ∈ L8) : (0 : Int) < (z.length : Int) := by
  have := (l8_len z hz).1
  omega
def sp_lvalue (K : PySem.W.Frag) : Sp := fun vs H Q _ => ∃ (a : Addr) (ns : List Int) (k : Int) (z : Str) (m : Nat), vs = [.ref a, .int k, .str z, .int m] ∧ Scr K H a ns ∧ 0 ≤ k ∧ k ≤ 10000 ∧ z ∈ L8 ∧ m ≤ 100 ∧
  ∀ x H', Same H H' → x.length ≤ m → (∀ c ∈ zs x, c ∈ zs z) → Q (.str x) H'
theorem ok_law_value (T : Txt P K mg A) : FnOk P w K mg base CX0 2 A.a_law_value A.d_law_value ["script", "at", "letters", "most"] (sp_lvalue K) := by
  refine T.f_law_value.F.ok sc_law_value (fun vs H Q E h => ?_) (fun cdv Ar outer s H vs Q E hr h => ?_)
  · obtain ⟨a, ns, k, z, m, rfl, _⟩ := h
    rfl
  · obtain ⟨a, ns, k, z, m, rfl, hS, k0, k1, hz, hm, q⟩ := h
    refine ⟨_, (pss_cons (ps_par (i := 4) (j := 5) (by rfl) sc_law_value.nd rfl rfl (by decide) rfl rfl (pa_cons (pe_callTy call_int1 (by rfl) T.n_int (by decide +kernel) (pa_cons (pe_call (ok_law_number T) (hr.mono (by decide)) (by rfl) T.f_law_number.g T.f_law_number.F.kp T.f_law_number.b .nil pass0 (pa_cons (pv 0) (pa_cons (pv 1) pa_nil))) pa_nil)) (pa_cons pe_str pa_nil)) (by rfl)) (pss_cons (ps_for PassesOwn.never rfl (pi_range1 (by rfl) T.n_range (pa_cons (pe_op op_mod (pe_callTy call_int1 (by rfl) T.n_int (by decide +kernel) (pa_cons (pv 4) pa_nil)) (pe_op op_add (pv 3) pe_int)) pa_nil)) (pg_name (i := 6) sc_law_value.nd rfl (Or.inl rfl)) (pss_one (ps_set (i := 5) sc_law_value.nd rfl (Or.inl rfl) (pe_op op_add_str (pv 5) (pe_ix ix_str (pv 2) (pe_op op_mod (pe_callTy call_int1 (by rfl) T.n_int (by decide +kernel) (pa_cons (pe_op op_fdiv (pv 4) (pe_op op_add pe_int (pe_op op_mul pe_int (pv 6)))) pa_nil)) (pe_callB call_len_str (by rfl) T.n_len (by decide +kernel) (pa_cons (pv 2) pa_nil))) (fun _ _ => rfl)))))) (pss_one (ps_ret (pv 5))))), ?_⟩
    refine ⟨_, rfl, _, rfl, a, ns, k, rfl, hS, k0, k1, fun r H1 s1 r0 r1 => .inl ⟨_, rfl, _, _, rfl, ?_⟩⟩
    have p0 : (0 : Int) < (m : Int) + 1 := by omega
    have m0 : 0 ≤ r % ((m : Int) + 1) := Int.emod_nonneg _ (by omega)
    have m1 : r % ((m : Int) + 1) < (m : Int) + 1 := Int.emod_lt_of_pos _ p0
    refine ⟨_, rfl, .inl ⟨_, rfl, _, rfl, _, _, rfl, rfl, _, _, rfl, rfl, p0, ?_⟩⟩
    refine ⟨r % ((m : Int) + 1), rfl, by omega, by omega, for_range (lo := 0) (n := (r % ((m : Int) + 1)).toNat) (fun i σ H' => Same H H' ∧ ∃ x o, σ = [some (.ref a), some (.int k), some (.str z), some (.int m), some (.int r), some (.str x), o] ∧ x.length = i ∧ ∀ c ∈ zs x, c ∈ zs z)
      ⟨s1, Str.ofString "", none, rfl, rfl, by simp [← S_nil, zs_S]⟩ ?_ ?_⟩
    · rintro i σ H2 hi ⟨sm, x, o, rfl, hx, hxz⟩
      obtain ⟨c, hc1, hc2⟩ := letter_at hz (r / (7 + 11 * (0 + (i : Int))))
      refine ⟨_, rfl, _, rfl, _, rfl, _, rfl, _, _, rfl, rfl, .inl ⟨by decide, by decide⟩, _, _, rfl, rfl, _, _, rfl, rfl, ⟨by omega, by omega⟩, .inl ⟨_, rfl, _, rfl, z, rfl, l8_line hz, _, _, rfl, rfl, l8_pos hz, z, _, c, rfl, rfl, l8_line hz, hc2, x, _, rfl, rfl, ?_, sm, _, _, rfl, ?_, ?_⟩⟩
      · rw [hx]
        exact Nat.le_trans (show i + 1 ≤ 200 by omega) (by decide)
      · rw [len_app, hx]
        rfl
      · intro d hd
        rw [zs_app] at hd
        rcases List.mem_append.mp hd with h | h
        · exact hxz d h
        · have : d = c := by simpa [zs] using h
          rw [this]
          exact hc1
    · rintro σ H2 ⟨sm, x, o, rfl, hx, hxz⟩
      exact ⟨_, rfl, q x _ sm (by omega) hxz⟩
/-! rows -/
structure RowOk (zs : List Nat) (M : Nat) (row : List (Nat × List Nat)) : Prop where
  st : ∀ t ∈ row, t.1 < M
  one : ∀ t ∈ row, t.2.length ≤ 1
  out : ∀ t ∈ row, ∀ c ∈ t.2, c ∈ zs
theorem cut_ts {t : TS} {D : Ends} {σ : L2.St} {H : Hp} (G : L2.St → Hp → Prop) (h : ∀ σ1 H1, G σ1 H1 → D.nx σ1 H1) (k : ∀ nx' : L2.St → Hp → Prop, (∀ σ1 H1, G σ1 H1 → nx' σ1 H1) → t { D with nx := nx' } σ H) : t D σ H := k D.nx h
def sp_lrows (K : PySem.W.Frag) : Sp := fun vs H Q _ => ∃ (a : Addr) (ns : List Int) (k : Int) (z : Str) (m : Nat), vs = [.ref a, .int k, .str z, .int m] ∧ Scr K H a ns ∧ 0 ≤ k ∧ k ≤ 1000 ∧ z ∈ L8 ∧ 1 ≤ m ∧ m ≤ 6 ∧
  ∀ v H' R, Same H H' → MachOk (zs z) R → R.length ≤ m → Dp K (New H H') v (rowsD R) → Q v H'
theorem ok_law_rows (T : Txt P K mg A) : FnOk P w K mg base CX0 2 A.a_law_rows A.d_law_rows ["script", "at", "letters", "most"] (sp_lrows K) := by
  refine T.f_law_rows.F.ok sc_law_rows (fun vs H Q E h => ?_) (fun cdv Ar outer s H vs Q E hr h => ?_)
  · obtain ⟨a, ns, k, z, m, rfl, _⟩ := h
    rfl
  · obtain ⟨a, ns, k, z, m, rfl, hS, k0, k1, hz, hm1, hm6, q⟩ := h
    refine ⟨_, (pss_cons (ps_par (i := 4) (j := 5) (by rfl) sc_law_rows.nd rfl rfl (by decide) rfl rfl (pa_cons (pe_op op_add pe_int (pe_op op_mod (pe_callTy call_int1 (by rfl) T.n_int (by decide +kernel) (pa_cons (pe_call (ok_law_number T) (hr.mono (by decide)) (by rfl) T.f_law_number.g T.f_law_number.F.kp T.f_law_number.b .nil pass0 (pa_cons (pv 0) (pa_cons (pv 1) pa_nil))) pa_nil)) (pv 3))) (pa_cons (pe_lst pa_nil) pa_nil)) (by rfl)) (pss_cons (ps_set (i := 6) sc_law_rows.nd rfl (Or.inl rfl) (pe_op op_add pe_int (pe_op op_mod (pe_callTy call_int1 (by rfl) T.n_int (by decide +kernel) (pa_cons (pe_call (ok_law_number T) (hr.mono (by decide)) (by rfl) T.f_law_number.g T.f_law_number.F.kp T.f_law_number.b .nil pass0 (pa_cons (pv 0) (pa_cons (pe_op op_add (pv 1) pe_int) pa_nil))) pa_nil)) pe_int))) (pss_cons (ps_for PassesOwn.never rfl (pi_range1 (by rfl) T.n_range (pa_cons (pv 4) pa_nil)) (pg_name (i := 7) sc_law_rows.nd rfl (Or.inl rfl)) (pss_cons (ps_set (i := 8) sc_law_rows.nd rfl (Or.inl rfl) (pe_lst pa_nil)) (pss_cons (ps_for PassesOwn.never rfl (pi_enumS (by rfl) T.n_enumerate (pa_cons (pv 2) pa_nil)) (pg_tup (by rfl) (pgs_cons (pg_name (i := 9) sc_law_rows.nd rfl (Or.inl rfl)) (pgs_cons (pg_name (i := 10) sc_law_rows.nd rfl (Or.inl rfl)) pgs_nil))) (pss_cons (ps_set (i := 11) sc_law_rows.nd rfl (Or.inl rfl) (pe_callTy call_int1 (by rfl) T.n_int (by decide +kernel) (pa_cons (pe_call (ok_law_number T) (hr.mono (by decide)) (by rfl) T.f_law_number.g T.f_law_number.F.kp T.f_law_number.b .nil pass0 (pa_cons (pv 0) (pa_cons (pe_op op_add (pe_op op_add (pe_op op_add (pv 1) pe_int) (pe_op op_mul pe_int (pv 7))) (pv 9)) pa_nil))) pa_nil))) (pss_cons (ps_set (i := 12) sc_law_rows.nd rfl (Or.inl rfl) (pe_ix ix_str (pv 2) (pe_op op_mod (pe_callTy call_int1 (by rfl) T.n_int (by decide +kernel) (pa_cons (pe_op op_fdiv (pv 11) pe_int) pa_nil)) (pe_callB call_len_str (by rfl) T.n_len (by decide +kernel) (pa_cons (pv 2) pa_nil))) (fun _ _ => rfl))) (pss_cons (ps_if (pt_cmpR op_eq (pe_op op_mod (pe_callTy call_int1 (by rfl) T.n_int (by decide +kernel) (pa_cons (pv 11) pa_nil)) (pv 6)) pe_int (nomark _)) (pss_one (ps_set (i := 12) sc_law_rows.nd rfl (Or.inl rfl) pe_str)) pss_nil) (pss_cons (ps_set (i := 12) sc_law_rows.nd rfl (Or.inl rfl) (pe_ifExp (pt_cmpR op_eq (pe_op op_mod (pe_callTy call_int1 (by rfl) T.n_int (by decide +kernel) (pa_cons (pe_op op_fdiv (pv 11) pe_int) pa_nil)) pe_int) pe_int (nomark _)) (pv 10) (pv 12))) (pss_one (ps_expr (pe_bm PySem.F.plainAttrs_list PySem.F.slot_list_append PySem.F.type_list_append mt_append (pv 8) (pa_cons (pe_tup (pa_cons (pe_op op_mod (pe_callTy call_int1 (by rfl) T.n_int (by decide +kernel) (pa_cons (pe_op op_fdiv (pv 11) pe_int) pa_nil)) (pv 4)) (pa_cons (pv 12) pa_nil))) pa_nil))))))))) (pss_one (ps_expr (pe_bm PySem.F.plainAttrs_list PySem.F.slot_list_append PySem.F.type_list_append mt_append (pv 5) (pa_cons (pe_callTy call_tuple_of (by rfl) T.n_tuple (by decide +kernel) (pa_cons (pv 8) pa_nil)) pa_nil))))))) (pss_one (ps_ret (pe_callTy call_tuple_of (by rfl) T.n_tuple (by decide +kernel) (pa_cons (pv 5) pa_nil))))))), ?_⟩
    refine ⟨_, rfl, _, rfl, a, ns, k, rfl, hS, k0, by omega, fun r H1 s1 r0 r1 => .inl ⟨_, rfl, ?_⟩⟩
    have p0 : (0 : Int) < (m : Int) := by omega
    have m0 : 0 ≤ r % (m : Int) := Int.emod_nonneg _ (by omega)
    have m1 : r % (m : Int) < (m : Int) := Int.emod_lt_of_pos _ p0
    obtain ⟨M, hM⟩ : ∃ M : Nat, 1 + r % (m : Int) = (M : Int) := ⟨(1 + r % (m : Int)).toNat, by omega⟩
    refine ⟨_, rfl, _, _, rfl, rfl, p0, _, _, rfl, rfl, ?_⟩
    refine ⟨Nat.zero_le _, fun FL hFL => ⟨_, _, rfl, ?_⟩⟩
    have f0 : H FL = none := s1.free hFL
    refine ⟨_, rfl, _, rfl, _, _, rfl, rfl, a, ns, k + 1, rfl, hS.same (Same.up s1 hFL), by omega, by omega, fun r2 H2 s2 r20 r21 => .inl ⟨_, rfl, _, _, rfl, rfl, pos5, _, _, rfl, rfl, ?_⟩⟩
    have t0 : 0 ≤ r2 % 5 := Int.emod_nonneg _ (by decide)
    have t1 : r2 % 5 < 5 := Int.emod_lt_of_pos _ (by decide)
    have s02 := (Same.up s1 hFL (o := .lst [])).trans s2
    refine ⟨_, rfl, 1 + r % (m : Int), rfl, by omega, by omega, for_range (lo := 0) (n := (1 + r % (m : Int)).toNat) (fun i σ H' => Same H H' ∧ ∃ R xs o7 o8 o9 o10 o11 o12, σ = [some (.ref a), some (.int k), some (.str z), some (.int m), some (.int (1 + r % (m : Int))), some (.ref FL), some (.int (2 + r2 % 5)), o7, o8, o9, o10, o11, o12] ∧
        H' FL = some (.lst xs) ∧ DpAll K (New H (hid [FL] H')) xs (R.map rowD) ∧ R.length = i ∧ ∀ row ∈ R, row.length = (zs z).length ∧ RowOk (zs z) M row)
      ⟨s02, [], [], none, none, none, none, none, none, rfl, s2 _ _ upd_same, .nil, rfl, fun _ h => nomatch h⟩ ?_ ?_⟩
    · rintro i σ H3 hi ⟨sm, R, xs, o7, o8, o9, o10, o11, o12, rfl, hx, dx, hR, hrows⟩
      have hiM : i < M := by omega
      refine ⟨Nat.zero_le _, fun WL hWL => ?_⟩
      have w0 : H WL = none := sm.free hWL
      have nFW : FL ≠ WL := ne_of_none hx hWL
      have sW := Same.up sm hWL (o := .lst [])
      have hmW : Same (hid [FL] H3) (hid [FL, WL] (upd H3 WL (.lst []))) := (hid_more hWL).trans (hid_less (by simp))
      refine ⟨_, rfl, z, rfl, ?_⟩
      refine for_it walk_enumS (fun j σ H' => Same H H' ∧ ∃ row ws o9 o10 o11 o12, σ = [some (.ref a), some (.int k), some (.str z), some (.int m), some (.int (1 + r % (m : Int))), some (.ref FL), some (.int (2 + r2 % 5)), some (.int ((0 : Int) + (i : Int))), some (.ref WL), o9, o10, o11, o12] ∧
          H' FL = some (.lst xs) ∧ DpAll K (New H (hid [FL, WL] H')) xs (R.map rowD) ∧ H' WL = some (.lst ws) ∧ DpAll K (New H (hid [FL, WL] H')) ws (row.map turnD) ∧ row.length = j ∧ RowOk (zs z) M row)
        ⟨sW, [], [], _, _, _, _, rfl, same_upd hWL _ _ hx, DpAll.same (new_trans hmW) dx, upd_same, .nil, rfl, ⟨fun _ h => (nomatch h), fun _ h => (nomatch h), fun _ h => (nomatch h)⟩⟩ (fun _ _ _ _ _ => trivial) ?_ ?_
      · rintro j y σ H4 H5 hj ⟨sm4, row, ws, o9, o10, o11, o12, rfl, hx4, dx4, hw4, dw4, hrl, hrok⟩ ⟨p, c, rfl, hp, rfl, hc⟩
        have hcz : c ∈ zs z := str_mem hc
        have sp := same_upd (o := .tup [.int (j : Nat), .str ⟨#[c]⟩]) hp
        have l4 := (l8_len z hz).2
        have hj4 : j < 4 := Nat.lt_of_lt_of_le hj l4
        refine ⟨p, _, rfl, .inl (.inl upd_same), rfl, _, _, rfl, _, _, rfl, rfl, ?_⟩
        refine ⟨_, rfl, _, rfl, _, _, rfl, rfl, _, rfl, _, _, rfl, rfl, .inl ⟨by decide, by decide⟩, _, _, rfl, rfl, _, rfl, _, _, rfl, rfl, a, ns, _, rfl, hS.same (sm4.trans sp), by omega, by omega, fun r3 H6 s6 r30 r31 => .inl ⟨_, rfl, ?_⟩⟩
        obtain ⟨d, hd1, hd2⟩ := letter_at hz (r3 / 9)
        refine ⟨_, rfl, _, rfl, _, _, rfl, rfl, ⟨by decide, by decide⟩, .inl ⟨_, rfl, _, rfl, z, rfl, l8_line hz, _, _, rfl, rfl, l8_pos hz, z, _, d, rfl, rfl, l8_line hz, hd2, ?_⟩⟩
        have pM : (0 : Int) < 1 + r % (m : Int) := by omega
        have pT : (0 : Int) < 2 + r2 % 5 := by omega
        obtain ⟨e1, e2⟩ : 0 ≤ r3 / 500 % (1 + r % (m : Int)) ∧ r3 / 500 % (1 + r % (m : Int)) < 1 + r % (m : Int) := ⟨Int.emod_nonneg _ (by omega), Int.emod_lt_of_pos _ pM⟩
        obtain ⟨t, ht⟩ : ∃ t : Nat, r3 / 500 % (1 + r % (m : Int)) = (t : Int) := ⟨(r3 / 500 % (1 + r % (m : Int))).toNat, by omega⟩
        have htM : t < M := by omega
        have sp6 := sp.trans s6
        have hx6 := sp6 _ _ hx4
        have hw6 := sp6 _ _ hw4
        have lws : ws.length < sizeLine := by
          rw [DpAll.len dw4, List.length_map, hrl]
          exact Nat.lt_trans hj4 (by decide)
        have fin : ∀ o : List Nat, o.length ≤ 1 → (∀ e ∈ o, e ∈ zs z) → ∀ u, H6 u = none → Same H (upd (upd H6 u (.tup [.int (r3 / 500 % (1 + r % (m : Int))), .str (S o)])) WL (.lst (ws ++ [.ref u]))) ∧ ∃ row ws' o9 o10 o11 o12,
            ([some (.ref a), some (.int k), some (.str z), some (.int m), some (.int (1 + r % (m : Int))), some (.ref FL), some (.int (2 + r2 % 5)), some (.int ((0 : Int) + (i : Int))), some (.ref WL), some (.int (j : Nat)), some (.str ⟨#[c]⟩), some (.int r3), some (.str (S o))] : L2.St) = [some (.ref a), some (.int k), some (.str z), some (.int m), some (.int (1 + r % (m : Int))), some (.ref FL), some (.int (2 + r2 % 5)), some (.int ((0 : Int) + (i : Int))), some (.ref WL), o9, o10, o11, o12] ∧
            upd (upd H6 u (.tup [.int (r3 / 500 % (1 + r % (m : Int))), .str (S o)])) WL (.lst (ws ++ [.ref u])) FL = some (.lst xs) ∧ DpAll K (New H (hid [FL, WL] (upd (upd H6 u (.tup [.int (r3 / 500 % (1 + r % (m : Int))), .str (S o)])) WL (.lst (ws ++ [.ref u]))))) xs (R.map rowD) ∧
            upd (upd H6 u (.tup [.int (r3 / 500 % (1 + r % (m : Int))), .str (S o)])) WL (.lst (ws ++ [.ref u])) WL = some (.lst ws') ∧ DpAll K (New H (hid [FL, WL] (upd (upd H6 u (.tup [.int (r3 / 500 % (1 + r % (m : Int))), .str (S o)])) WL (.lst (ws ++ [.ref u]))))) ws' (row.map turnD) ∧ row.length = j + 1 ∧ RowOk (zs z) M row := by
          intro o ho1 ho2 u hu
          have su := same_upd (o := .tup [.int (r3 / 500 % (1 + r % (m : Int))), .str (S o)]) hu
          have n : hid [FL, WL] (upd (upd H6 u (.tup [.int (r3 / 500 % (1 + r % (m : Int))), .str (S o)])) WL (.lst (ws ++ [.ref u]))) = hid [FL, WL] (upd H6 u (.tup [.int (r3 / 500 % (1 + r % (m : Int))), .str (S o)])) := hid_upd (by simp)
          have upn : Same (New H (hid [FL, WL] H4)) (New H (hid [FL, WL] (upd H6 u (.tup [.int (r3 / 500 % (1 + r % (m : Int))), .str (S o)])))) := new_trans (hid_same fun b o _ e => su b o (sp6 b o e))
          have uF : u ≠ FL := (ne_of_none hx6 hu).symm
          have uW : u ≠ WL := (ne_of_none hw6 hu).symm
          refine ⟨Same.set ((sm4.trans sp6).trans su) w0, row ++ [(t, o)], ws ++ [.ref u], _, _, _, _, rfl, ?_, ?_, upd_same, ?_, by rw [List.length_append, hrl]; rfl, ?_⟩
          · rw [upd_ne nFW]
            exact su _ _ hx6
          · rw [n]
            exact DpAll.same upn dx4
          · rw [n, List.map_append]
            refine DpAll.app (DpAll.same upn dw4) (.cons (Dp.tupNew (new_hid_at ((sm4.trans sp6).free hu) (by simp; exact ⟨uF, uW⟩) upd_same) ?_) .nil)
            rw [ht]
            exact .cons (.int _) (.cons (.str _) .nil)
          · refine ⟨fun x hx => ?_, fun x hx => ?_, fun x hx => ?_⟩
            · rcases List.mem_append.mp hx with h | h
              · exact hrok.st x h
              · simp at h
                rw [h]
                exact htM
            · rcases List.mem_append.mp hx with h | h
              · exact hrok.one x h
              · simp at h
                rw [h]
                exact ho1
            · rcases List.mem_append.mp hx with h | h
              · exact hrok.out x h
              · simp at h
                rw [h]
                exact ho2
        refine ⟨_, rfl, .inl ⟨_, rfl, _, rfl, _, _, rfl, rfl, pT, rfl, _, rfl, ?_⟩⟩
        by_cases q1 : r3 % (2 + r2 % 5) = 0
        · rw [show decide (V.int (r3 % (2 + r2 % 5)) = V.int 0) = true from decide_eq_true (by rw [q1])]
          refine iteT ⟨_, rfl, _, _, rfl, rfl, ⟨by decide, by decide⟩, .inl ⟨_, rfl, _, _, rfl, rfl, pos3, rfl, _, rfl, ?_⟩⟩
          by_cases q2 : r3 / 81 % 3 = 0
          · rw [show decide (V.int (r3 / 81 % 3) = V.int 0) = true from decide_eq_true (by rw [q2])]
            refine iteT ⟨_, rfl, _, rfl, .inl ⟨rfl, _, SqL.of hw6⟩, _, rfl, _, _, rfl, rfl, ⟨by decide, by decide⟩, .inl ⟨_, rfl, _, rfl, _, _, rfl, rfl, pM, _, rfl, by show 2 ≤ sizeLine; decide, fun u hu => ⟨WL, ws, _, rfl, rfl, same_upd hu _ _ hw6, lws, fin [c] (Nat.le_refl _) (by simp; exact hcz) u hu⟩⟩⟩
          · rw [show decide (V.int (r3 / 81 % 3) = V.int 0) = false from decide_eq_false (fun h => q2 (by injection h))]
            refine iteF ⟨_, rfl, _, rfl, .inl ⟨rfl, _, SqL.of hw6⟩, _, rfl, _, _, rfl, rfl, ⟨by decide, by decide⟩, .inl ⟨_, rfl, _, rfl, _, _, rfl, rfl, pM, _, rfl, by show 2 ≤ sizeLine; decide, fun u hu => ⟨WL, ws, _, rfl, rfl, same_upd hu _ _ hw6, lws, fin [] (Nat.zero_le _) (by simp) u hu⟩⟩⟩
        · rw [show decide (V.int (r3 % (2 + r2 % 5)) = V.int 0) = false from decide_eq_false (fun h => q1 (by injection h))]
          refine iteF ⟨_, rfl, _, _, rfl, rfl, ⟨by decide, by decide⟩, .inl ⟨_, rfl, _, _, rfl, rfl, pos3, rfl, _, rfl, ?_⟩⟩
          by_cases q2 : r3 / 81 % 3 = 0
          · rw [show decide (V.int (r3 / 81 % 3) = V.int 0) = true from decide_eq_true (by rw [q2])]
            refine iteT ⟨_, rfl, _, rfl, .inl ⟨rfl, _, SqL.of hw6⟩, _, rfl, _, _, rfl, rfl, ⟨by decide, by decide⟩, .inl ⟨_, rfl, _, rfl, _, _, rfl, rfl, pM, _, rfl, by show 2 ≤ sizeLine; decide, fun u hu => ⟨WL, ws, _, rfl, rfl, same_upd hu _ _ hw6, lws, fin [c] (Nat.le_refl _) (by simp; exact hcz) u hu⟩⟩⟩
          · rw [show decide (V.int (r3 / 81 % 3) = V.int 0) = false from decide_eq_false (fun h => q2 (by injection h))]
            refine iteF ⟨_, rfl, _, rfl, .inl ⟨rfl, _, SqL.of hw6⟩, _, rfl, _, _, rfl, rfl, ⟨by decide, by decide⟩, .inl ⟨_, rfl, _, rfl, _, _, rfl, rfl, pM, _, rfl, by show 2 ≤ sizeLine; decide, fun u hu => ⟨WL, ws, _, rfl, rfl, same_upd hu _ _ hw6, lws, fin [d] (Nat.le_refl _) (by simp; exact hd1) u hu⟩⟩⟩
      · rintro σ H4 ⟨sm4, row, ws, o9, o10, o11, o12, rfl, hx4, dx4, hw4, dw4, hrl, hrok⟩
        refine ⟨_, rfl, .inl ⟨rfl, _, SqL.of hx4⟩, _, rfl, WL, ws, rfl, .inl ⟨SqL.of hw4, fun u hu => ?_⟩⟩
        have su := same_upd (o := .tup ws) hu
        have uF : u ≠ FL := (ne_of_none hx4 hu).symm
        have upn : Same (New H (hid [FL, WL] H4)) (New H (hid [FL] (upd H4 u (.tup ws)))) := new_trans ((hid_less (by simp)).trans (hid_up hu))
        refine ⟨FL, xs, _, rfl, rfl, su _ _ hx4, ?_, Same.set (sm4.trans su) f0, R ++ [row], xs ++ [.ref u], _, _, _, _, _, _, rfl, upd_same, ?_, by rw [List.length_append, hR]; rfl, ?_⟩
        · rw [DpAll.len dx4, List.length_map, hR]
          exact Nat.lt_trans (show i < 7 by omega) (by decide)
        · rw [hid_upd (by simp), List.map_append]
          exact DpAll.app (DpAll.same upn dx4) (.cons (Dp.tupNew (new_hid_at (sm4.free hu) (by simp; exact uF) upd_same) (DpAll.same upn dw4)) .nil)
        · intro row' h
          rcases List.mem_append.mp h with h | h
          · exact hrows row' h
          · simp at h
            rw [h]
            exact ⟨by rw [hrl, zs]; simp, hrok⟩
    · rintro σ H3 ⟨sm, R, xs, o7, o8, o9, o10, o11, o12, rfl, hx, dx, hR, hrows⟩
      refine ⟨_, rfl, FL, xs, rfl, .inl ⟨.inl (.inl hx), fun l hl => ?_⟩⟩
      refine q _ _ R (Same.up sm hl) ⟨by omega, fun row h => (hrows row h).1, fun row h t ht => ?_, fun row h => (hrows row h).2.one, fun row h => (hrows row h).2.out⟩ (by omega) (tup_new (ls := [FL]) sm hl dx)
      have := (hrows row h).2.st t ht
      omega
end
end K1
set_option Elab.async false
set_option linter.all false
set_option maxRecDepth 100000
set_option maxHeartbeats 4000000
namespace K1
open PySem PySem.Spec PyProof.Rows L2 FX
section
variable {P : Program} {w : World} {K : PySem.W.Frag} {mg : Str → Option Value} {base : Heap} {A : Ad}
def sp_lturn (K : PySem.W.Frag) : Sp := fun vs H Q _ => ∃ (z : Str) (v : V) (R : Rows) (st c : Nat), vs = [.str z, v, .int st, .str (S [c])] ∧ z ∈ L8 ∧ Dp K H v (rowsD R) ∧ MachOk (zs z) R ∧ st < R.length ∧ c ∈ zs z ∧ ∀ u, Dp K H u (turnD (stp (zs z) R st c)) → Q u H
theorem ok_law_turn (T : Txt P K mg A) : FnOk P w K mg base CX0 1 A.a_law_turn A.d_law_turn ["letters", "rows", "state", "letter"] (sp_lturn K) := by
  refine T.f_law_turn.F.ok sc_law_turn (fun vs H Q E h => ?_) (fun cdv Ar outer s H vs Q E hr h => ?_)
  · obtain ⟨z, v, R, st, c, rfl, _⟩ := h
    rfl
  · obtain ⟨z, v, R, st, c, rfl, hz, hd, M, hst, hc, q⟩ := h
    refine ⟨_, (pss_one (ps_ret (pe_ix ix_tup (pe_ix ix_tup (pv 1) (pv 2) (fun _ _ => rfl)) (pe_m1 PySem.F.slot_str_index PySem.F.type_str_index mt_sindex (pv 0) (pv 3)) (fun _ _ => rfl)))), ?_⟩
    obtain ⟨row, g1, g2, g3, g4⟩ := stp_mem M hst hc
    obtain ⟨a, xs, rfl, hs, ha⟩ := Dp.tupOf hd
    obtain ⟨v1, k1, k2⟩ := DpAll.get ha (i := st) (d := rowD row) (by rw [List.getElem?_map, g1]; rfl)
    obtain ⟨b, ys, rfl, hs2, ha2⟩ := Dp.tupOf k2
    obtain ⟨v2, k3, k4⟩ := DpAll.get ha2 (i := ix (zs z) c) (d := turnD (stp (zs z) R st c)) (by rw [List.getElem?_map, g2]; rfl)
    refine ⟨_, rfl, _, rfl, a, xs, st, _, rfl, rfl, hs, atI_nat k1, _, rfl, ⟨_, rfl⟩, _, rfl, z, S [c], ix (zs z) c, [], rfl, rfl, l8_index z hz c hc, ?_⟩
    exact ⟨b, ys, ((ix (zs z) c : Nat) : Int), v2, rfl, rfl, hs2, atI_nat k3, q v2 k4⟩
theorem S_app (a b : List Nat) : S (a ++ b) = S a ++ S b := by
  show (⟨(a ++ b).toArray⟩ : Str) = ⟨a.toArray ++ b.toArray⟩
  rw [List.append_toArray]
def sp_lends (K : PySem.W.Frag) : Sp := fun vs H Q _ => ∃ (z x : Str) (v : V) (R : Rows), vs = [.str z, v, .str x] ∧ z ∈ L8 ∧ Dp K H v (rowsD R) ∧ MachOk (zs z) R ∧ x.length ≤ 1000 ∧ (∀ c ∈ zs x, c ∈ zs z) ∧
  ∀ t H', Same H H' → SqT K H' t [.int (runM (zs z) R 0 (zs x)).1, .str (S (madeM (zs z) R (zs x)))] → Q (.ref t) H'
theorem ok_law_ends (T : Txt P K mg A) : FnOk P w K mg base CX0 2 A.a_law_ends A.d_law_ends ["letters", "rows", "value"] (sp_lends K) := by
  refine T.f_law_ends.F.ok sc_law_ends (fun vs H Q E h => ?_) (fun cdv Ar outer s H vs Q E hr h => ?_)
  · obtain ⟨z, x, v, R, rfl, _⟩ := h
    rfl
  · obtain ⟨z, x, v, R, rfl, hz, hd, M, hx, hc, q⟩ := h
    refine ⟨_, (pss_cons (ps_asg (pe_tup (pa_cons pe_int (pa_cons pe_str pa_nil))) (pg_tup (by rfl) (pgs_cons (pg_name (i := 3) sc_law_ends.nd rfl (Or.inl rfl)) (pgs_cons (pg_name (i := 4) sc_law_ends.nd rfl (Or.inl rfl)) pgs_nil)))) (pss_cons (ps_for PassesOwn.never rfl (pi_str (pv 2)) (pg_name (i := 5) sc_law_ends.nd rfl (Or.inl rfl)) (pss_cons (ps_asg (pe_call (ok_law_turn T) (hr.mono (by decide)) (by rfl) T.f_law_turn.g T.f_law_turn.F.kp T.f_law_turn.b .nil pass0 (pa_cons (pv 0) (pa_cons (pv 1) (pa_cons (pv 3) (pa_cons (pv 5) pa_nil))))) (pg_tup (by rfl) (pgs_cons (pg_name (i := 3) sc_law_ends.nd rfl (Or.inl rfl)) (pgs_cons (pg_name (i := 6) sc_law_ends.nd rfl (Or.inl rfl)) pgs_nil)))) (pss_one (ps_set (i := 4) sc_law_ends.nd rfl (Or.inl rfl) (pe_op op_add_str (pv 4) (pv 6)))))) (pss_one (ps_ret (pe_tup (pa_cons (pv 3) (pa_cons (pv 4) pa_nil))))))), ?_⟩
    refine ⟨by show 2 ≤ sizeLine; decide, fun t0 ht0 => ⟨t0, _, rfl, SqT.of upd_same, rfl, _, _, rfl, _, _, rfl, rfl, ?_⟩⟩
    refine ⟨_, rfl, x, rfl, ?_⟩
    refine for_it (walk_str (z := x)) (fun i σ H' => Same H H' ∧ ∃ o5 o6, σ = [some (.str z), some v, some (.str x), some (.int (runM (zs z) R 0 ((zs x).take i)).1), some (.str (S (runM (zs z) R 0 ((zs x).take i)).2)), o5, o6])
      ⟨same_upd ht0, none, none, rfl⟩ (fun _ _ _ _ _ => trivial) ?_ ?_
    · rintro i y σ H2 H3 hi ⟨sm, o5, o6, rfl⟩ ⟨rfl, c, hci, rfl⟩
      have hcx := str_at hci
      have ht := take_succ' hcx
      have hpre : ∀ d ∈ (zs x).take i, d ∈ zs z := fun d hd => hc d (List.mem_of_mem_take hd)
      have hst := runM_lt M ((zs x).take i) 0 M.pos hpre
      have hcz : c ∈ zs z := hc c (List.mem_of_getElem? hcx)
      refine ⟨_, rfl, _, rfl, _, rfl, _, rfl, z, v, R, _, c, rfl, hz, Dp.same sm hd, M, hst, hcz, fun u hu => ?_⟩
      obtain ⟨t, xs, rfl, hts, hta⟩ := Dp.tupOf hu
      cases hta with
      | cons g1 g2 =>
        cases g2 with
        | cons g2 g3 =>
          cases g3
          obtain rfl := Dp.intOf g1
          obtain rfl := Dp.strOf g2
          refine ⟨t, _, rfl, hts, rfl, _, _, rfl, _, _, rfl, rfl, ?_⟩
          have l1 := runM_len M ((zs x).take i) 0 M.pos hpre
          have l2 := stp_one M hst hcz
          refine ⟨_, rfl, _, rfl, _, _, rfl, rfl, ?_, sm, some (.str ⟨#[c]⟩), some (.str (S (stp (zs z) R (runM (zs z) R 0 ((zs x).take i)).1 c).2)), ?_⟩
          · rw [S_len, S_len]
            rw [List.length_take, zs_length] at l1
            exact Nat.le_trans (show _ ≤ 1001 by omega) (by decide)
          · rw [ht, runM_app]
            rw [S_app]
            simp only [runM, List.append_nil]
            rfl
    · rintro σ H2 ⟨sm, o5, o6, rfl⟩
      have e0 : (zs x).take x.cps.size = zs x := List.take_of_length_le (by simp [zs])
      rw [e0]
      exact ⟨_, rfl, _, rfl, by show 2 ≤ sizeLine; decide, fun t ht => q t _ (Same.up sm ht) (SqT.of upd_same)⟩
end
end K1
set_option Elab.async false
set_option linter.all false
set_option maxRecDepth 100000
set_option maxHeartbeats 4000000
namespace K1
open PySem PySem.Spec PyProof.Rows L2 FX
theorem lt_cons (a b : Int) (x y : List Int) : ltI (a :: x) (b :: y) = if a = b then ltI x y else decide (a < b) := by
  show (if a = b then lexB _ (decide ((a :: x).length < (b :: y).length)) x y else _) = _
  rw [show decide ((a :: x).length < (b :: y).length) = decide (x.length < y.length) by simp]
theorem gt_cons (a b : Int) (x y : List Int) : gtI (a :: x) (b :: y) = if a = b then gtI x y else decide (b < a) := by
  show (if a = b then lexB _ (decide ((b :: y).length < (a :: x).length)) x y else _) = _
  rw [show decide ((b :: y).length < (a :: x).length) = decide (y.length < x.length) by simp]
theorem gt_is : ∀ x y : List Int, gtI x y = ltI y x
  | [], [] => rfl
  | [], _ :: _ => rfl
  | _ :: _, [] => rfl
  | a :: x, b :: y => by
    rw [gt_cons, lt_cons, gt_is x y]
    by_cases e : a = b
    · rw [if_pos e, if_pos e.symm]
    · rw [if_neg e, if_neg fun h => e h.symm]
theorem lt_or : ∀ x y : List Int, x ≠ y → ltI x y = !ltI y x
  | [], [], h => absurd rfl h
  | [], b :: y, _ => by simp [ltI, lexB]
  | a :: x, [], _ => by simp [ltI, lexB]
  | a :: x, b :: y, h => by
    rw [lt_cons, lt_cons]
    by_cases e : a = b
    · subst e
      rw [if_pos rfl, if_pos rfl]
      exact lt_or x y fun h2 => h (by rw [h2])
    · rw [if_neg e, if_neg (show ¬ b = a from fun h => e h.symm)]
      by_cases l : a < b
      · simp [l, Int.not_lt.mpr (Int.le_of_lt l)]
      · simp [l]; omega
theorem lt_self : ∀ x : List Int, ltI x x = false
  | [] => rfl
  | a :: x => by rw [lt_cons, if_pos rfl]; exact lt_self x
theorem cmp_due (x y : List Int) : cmpI x y = (if ltI x y = true then -1 else if gtI x y = true then 1 else 0) ∧ cmpI y x = 0 - (if ltI x y = true then -1 else if gtI x y = true then 1 else 0) := by
  unfold cmpI
  rw [gt_is]
  by_cases e : x = y
  · subst e
    rw [lt_self]
    simp
  · rw [if_neg e, if_neg (show ¬ y = x from fun h => e h.symm), lt_or x y e]
    cases ltI y x <;> simp
section
variable {P : Program} {w : World} {K : PySem.W.Frag} {mg : Str → Option Value} {base : Heap} {A : Ad}
theorem pos4 : (0 : Int) < 4 := by decide
theorem cutS_in {z y : Str} {i j : Option Int} (h : ∀ c ∈ zs z, c ∈ zs y) : ∀ c ∈ zs (cutS z i j), c ∈ zs y := by
  intro c hc
  have h2 : c ∈ (z.cps.toList.drop (HT.sIx z.length 0 i)).take (HT.sIx z.length z.length j - HT.sIx z.length 0 i) := by
    have := hc
    simpa [zs, cutS] using this
  exact h c (List.mem_of_mem_drop (List.mem_of_mem_take h2))
def sp_lorder (K : PySem.W.Frag) : Sp := fun vs H Q _ => ∃ (a : Addr) (ns : List Int) (z x : Str), vs = [.ref a, .str z, .str x] ∧ Scr K H a ns ∧ z ∈ L8 ∧ x.length ≤ 100 ∧ (∀ c ∈ zs x, c ∈ zs z) ∧ ∀ H', Same H H' → Q (.bl true) H'
theorem ok_law_order_right (T : Txt P K mg A) : FnOk P w K mg base CX0 4 A.a_law_order_right A.d_law_order_right ["script", "letters", "value"] (sp_lorder K) := by
  refine T.f_law_order_right.F.ok sc_law_order_right (fun vs H Q E h => ?_) (fun cdv Ar outer s H vs Q E hr h => ?_)
  · obtain ⟨a, ns, z, x, rfl, _⟩ := h
    rfl
  · obtain ⟨a, ns, z, x, rfl, hS, hz, hx, hxz, q⟩ := h
    refine ⟨_, (pss_cons (ps_set (i := 3) sc_law_order_right.nd rfl (Or.inl rfl) (pe_call (ok_law_value T) (hr.mono (by decide)) (by rfl) T.f_law_value.g T.f_law_value.F.kp T.f_law_value.b .nil pass0 (pa_cons (pv 0) (pa_cons pe_int (pa_cons (pv 1) (pa_cons pe_int pa_nil)))))) (pss_cons (ps_set (i := 3) sc_law_order_right.nd rfl (Or.inl rfl) (pe_op op_add_str (pe_slice sl_str (pv 2) po_none (po_some (pe_op op_mod (pe_callTy call_int1 (by rfl) T.n_int (by decide +kernel) (pa_cons (pe_call (ok_law_number T) (hr.mono (by decide)) (by rfl) T.f_law_number.g T.f_law_number.F.kp T.f_law_number.b .nil pass0 (pa_cons (pv 0) (pa_cons pe_int pa_nil))) pa_nil)) pe_int))) (pv 3))) (pss_cons (ps_par (i := 4) (j := 5) (by rfl) sc_law_order_right.nd rfl rfl (by decide) rfl rfl (pa_cons (pe_lc (own := [("one", 7)]) (g := (gName 7)) (tt := tYes) (by rfl) sc_law_order_right.nd (pi_str (pv 2)) (blkOk_by (own := [("one", 7)]) (N := ["script", "letters", "value", "other", "mine", "theirs", "due", "one"]) (sc := defScope s_law_order_right) (by decide +kernel)) (fun _ _ _ _ _ => (pg_name (i := 7) sc_law_order_right.nd rfl (Or.inl rfl))) (fun _ _ _ _ _ => pts_nil) (fun _ _ _ _ _ => by exact (pe_m1 PySem.F.slot_str_index PySem.F.type_str_index mt_sindex (pv 1) (pv 7)))) (pa_cons (pe_lc (own := [("one", 7)]) (g := (gName 7)) (tt := tYes) (by rfl) sc_law_order_right.nd (pi_str (pv 3)) (blkOk_by (own := [("one", 7)]) (N := ["script", "letters", "value", "other", "mine", "theirs", "due", "one"]) (sc := defScope s_law_order_right) (by decide +kernel)) (fun _ _ _ _ _ => (pg_name (i := 7) sc_law_order_right.nd rfl (Or.inl rfl))) (fun _ _ _ _ _ => pts_nil) (fun _ _ _ _ _ => by exact (pe_m1 PySem.F.slot_str_index PySem.F.type_str_index mt_sindex (pv 1) (pv 7)))) pa_nil)) (by rfl)) (pss_cons (ps_set (i := 6) sc_law_order_right.nd rfl (Or.inl rfl) (pe_ifExp (pt_cmpR (op_ltL (units0 hr)) (pv 4) (pv 5) (nomark _)) (pe_un un_neg pe_int) (pe_callTy call_int1 (by rfl) T.n_int (by decide +kernel) (pa_cons (pe_cmpR (op_gtL (units0 hr)) (pv 4) (pv 5) (nomark _)) pa_nil)))) (pss_one (ps_ret (pe_and (pe_cmpR op_eq (pe_call (ok_compare T) (hr.mono (by decide)) (by rfl) T.f_compare.g T.f_compare.F.kp T.f_compare.b .nil pass0 (pa_cons (pv 1) (pa_cons (pv 2) (pa_cons (pv 3) pa_nil)))) (pv 6) (nomark _)) (pe_one (pe_cmpR op_eq (pe_call (ok_compare T) (hr.mono (by decide)) (by rfl) T.f_compare.g T.f_compare.F.kp T.f_compare.b .nil pass0 (pa_cons (pv 1) (pa_cons (pv 3) (pa_cons (pv 2) pa_nil)))) (pe_op op_sub pe_int (pv 6)) (nomark _)))))))))), ?_⟩
    refine ⟨_, rfl, _, rfl, a, ns, 92, z, 6, rfl, hS, by decide, by decide, hz, by decide, fun o H1 s1 ol oz => ?_⟩
    refine ⟨_, rfl, _, rfl, a, ns, 93, rfl, hS.same s1, by decide, by decide, fun r H2 s2 r0 r1 => .inl ⟨_, rfl, _, _, rfl, rfl, pos4, _, rfl, ?_⟩⟩
    refine ⟨x, rfl, Nat.le_trans hx (by decide), _, rfl, _, _, rfl, rfl, ?_⟩
    generalize hy : cutS x none (some (r % 4)) = y0
    have y0l : y0.length ≤ 100 := by rw [← hy]; exact Nat.le_trans (cutS_length x _ _) hx
    have y0z : ∀ c ∈ zs y0, c ∈ zs z := by rw [← hy]; exact cutS_in hxz
    generalize hyy : y0 ++ o = y
    have yl : y.length ≤ 106 := by rw [← hyy, len_app]; omega
    have yz : ∀ c ∈ zs y, c ∈ zs z := by
      rw [← hyy, zs_app]
      intro c hc
      rcases List.mem_append.mp hc with h | h
      · exact y0z c h
      · exact oz c h
    have s02 := s1.trans s2
    refine ⟨by rw [← len_app, hyy]; exact Nat.le_trans yl (by decide), ?_⟩
    refine ⟨_, rfl, x, rfl, fun D hD => ?_⟩
    refine lc_rel (walk_str (z := x)) (fun j v _ => ∃ c, (zs x)[j]? = some c ∧ v = .int ((ix (zs z) c : Nat) : Int)) (fun _ _ _ _ _ h => h) hD (by show x.length < _; exact Nat.lt_of_le_of_lt hx (by decide)) (fun _ _ => trivial) ?_ ?_
    · rintro i v H4 H5 hi sm ⟨o, hd⟩ ⟨rfl, c, hc, rfl⟩ kk
      have hca := str_at hc
      refine ⟨rfl, ?_⟩
      unfold tYes
      exact iteT ⟨_, rfl, ⟨_, rfl⟩, _, rfl, z, S [c], ix (zs z) c, [], rfl, rfl, l8_index z hz c (hxz c (List.mem_of_getElem? hca)), kk _ _ (Same.refl _) ⟨c, hca, rfl⟩⟩
    · intro H4 xs sm hxD hxn hv
      have ex := ranks_of (r := ix (zs z)) (t := zs x) (by rw [hxn, zs_length]; rfl) hv
      refine ⟨_, rfl, y, rfl, fun D2 hD2 => ?_⟩
      refine lc_rel (walk_str (z := y)) (fun j v _ => ∃ c, (zs y)[j]? = some c ∧ v = .int ((ix (zs z) c : Nat) : Int)) (fun _ _ _ _ _ h => h) hD2 (by show y.length < _; exact Nat.lt_of_le_of_lt yl (by decide)) (fun _ _ => trivial) ?_ ?_
      · rintro i v H5 H6 hi sm5 ⟨o, hd⟩ ⟨rfl, c, hc, rfl⟩ kk
        have hcb := str_at hc
        refine ⟨rfl, ?_⟩
        unfold tYes
        exact iteT ⟨_, rfl, ⟨_, rfl⟩, _, rfl, z, S [c], ix (zs z) c, [], rfl, rfl, l8_index z hz c (yz c (List.mem_of_getElem? hcb)), kk _ _ (Same.refl _) ⟨c, hcb, rfl⟩⟩
      · intro H5 ys sm5 hyD hyn hv5
        have ey := ranks_of (r := ix (zs z)) (t := zs y) (by rw [hyn, zs_length]; rfl) hv5
        subst ex ey
        have lx : SqL K H5 D ((ranks (ix (zs z)) (zs x)).map V.int) := SqL.of (sm5 _ _ hxD)
        have ly : SqL K H5 D2 ((ranks (ix (zs z)) (zs y)).map V.int) := SqL.of hyD
        have due := cmp_due (ranks (ix (zs z)) (zs x)) (ranks (ix (zs z)) (zs y))
        generalize hd : (if ltI (ranks (ix (zs z)) (zs x)) (ranks (ix (zs z)) (zs y)) = true then (-1 : Int) else if gtI (ranks (ix (zs z)) (zs x)) (ranks (ix (zs z)) (zs y)) = true then 1 else 0) = d at due
        have s05 := s02.trans (sm.trans sm5)
        refine ⟨_, _, rfl, _, rfl, _, rfl, D, D2, _, _, rfl, rfl, lx, ly, _, rfl, ?_⟩
        cases e2 : lexB (fun a b => decide (a < b)) ((fun a b => decide (a < b)) (ranks (ix (zs z)) (zs x)).length (ranks (ix (zs z)) (zs y)).length) (ranks (ix (zs z)) (zs x)) (ranks (ix (zs z)) (zs y)) with
        | true =>
          rw [if_pos (show ltI _ _ = true from e2)] at hd
          refine iteT ⟨1, rfl, ?_⟩
          subst hd
          refine ⟨_, rfl, _, rfl, _, rfl, z, x, y, rfl, hz, by omega, by omega, hxz, yz, fun H7 s7 => ?_⟩
          rw [due.1]
          refine ⟨_, rfl, rfl, _, rfl, iteT ⟨_, rfl, _, rfl, _, rfl, z, y, x, rfl, hz, by omega, by omega, yz, hxz, fun H8 s8 => ?_⟩⟩
          rw [due.2]
          exact ⟨_, rfl, _, _, rfl, rfl, rfl, q _ (s05.trans (s7.trans s8))⟩
        | false =>
          rw [if_neg (by rw [show ltI _ _ = false from e2]; decide)] at hd
          refine iteF ⟨_, rfl, _, rfl, D, D2, _, _, rfl, rfl, lx, ly, .inr ⟨_, rfl, ?_⟩⟩
          rw [show (if lexB (fun a b => decide (b < a)) ((fun a b => decide (b < a)) (ranks (ix (zs z)) (zs x)).length (ranks (ix (zs z)) (zs y)).length) (ranks (ix (zs z)) (zs x)) (ranks (ix (zs z)) (zs y)) = true then (1 : Int) else 0) = d from hd]
          refine ⟨_, rfl, _, rfl, _, rfl, z, x, y, rfl, hz, by omega, by omega, hxz, yz, fun H7 s7 => ?_⟩
          rw [due.1]
          refine ⟨_, rfl, rfl, _, rfl, ?_⟩
          rw [show decide (V.int d = V.int d) = true by simp]
          refine iteT ⟨_, rfl, _, rfl, _, rfl, z, y, x, rfl, hz, by omega, by omega, yz, hxz, fun H8 s8 => ?_⟩
          rw [due.2]
          refine ⟨_, rfl, _, _, rfl, rfl, rfl, ?_⟩
          rw [show decide (V.int (0 - d) = V.int (0 - d)) = true by simp]
          exact q _ (s05.trans (s7.trans s8))
end
end K1
set_option Elab.async false
set_option linter.all false
set_option maxRecDepth 100000
set_option maxHeartbeats 4000000
namespace K1
open PySem PySem.Spec PyProof.Rows L2 FX
theorem seq_cut {t u : TS} {D : Ends} {σ : L2.St} {H : Hp} (G : L2.St → Hp → Prop) (h : ∀ σ1 H1, G σ1 H1 → u D σ1 H1) (k : ∀ nx' : L2.St → Hp → Prop, (∀ σ1 H1, G σ1 H1 → nx' σ1 H1) → t { D with nx := nx' } σ H) : tSeq t u D σ H := k (u D) h
theorem gName_go {k : Nat} {v : V} {σ : L2.St} {H : Hp} {Q : L2.St → Hp → Prop} (h : Q (σ.set k (some v)) H) : gName k v σ H Q := h
theorem iteD0 {A B : Prop} {b : Bool} (h : b = false) (q : B) : if b = true then A else B := by rw [h]; exact iteF q
theorem iteD1 {A B : Prop} {b : Bool} (h : b = true) (q : A) : if b = true then A else B := by rw [h]; exact iteT q
theorem dec_int (a b : Int) : decide (V.int a = V.int b) = decide (a = b) := decide_eq_decide.mpr ⟨fun h => V.int.inj h, fun h => by rw [h]⟩
theorem cat_go {K : PySem.W.Frag} {H : Hp} {Q : VK} {a b : Addr} {xs ys : List V} (ha : SqT K H a xs) (hb : SqT K H b ys) (hl : xs.length + ys.length ≤ sizeLine)
    (q : ∀ t H', Same H H' → SqT K H' t (xs ++ ys) → Q (.ref t) H') : rCatA K (.ref a) (.ref b) H Q := by
  refine ⟨a, b, xs, ys, rfl, rfl, ha, hb, hl, fun e => ?_, fun _ e => ?_, fun _ _ p hp => ?_⟩
  · exact q b H (Same.refl _) (by rw [e, List.nil_append]; exact hb)
  · exact q a H (Same.refl _) (by rw [e, List.append_nil]; exact ha)
  · exact q p _ (same_upd hp) (SqT.of upd_same)
theorem slice_go {K : PySem.W.Frag} {H : Hp} {Q : VK} {a : Addr} {xs : List V} {lo hi : Option Int} (ha : SqT K H a xs)
    (q : ∀ t H', Same H H' → SqT K H' t (cutV xs lo hi) → Q (.ref t) H') : rSlA K (.ref a) lo hi H Q := by
  refine ⟨a, xs, rfl, ha, fun w => ?_, fun _ p hp => ?_⟩
  · refine q a H (Same.refl _) ?_
    unfold cutV
    rw [w.1, w.2, List.drop_zero, Nat.sub_zero, List.take_length]
    exact ha
  · exact q p _ (same_upd hp) (SqT.of upd_same)
theorem cutV_head (xs : List V) (k : Nat) : cutV xs none (some (k : Int)) = xs.take k := by
  unfold cutV
  rw [HT.sIx_nat, HT.sIx_none, List.drop_zero, Nat.sub_zero]
  by_cases h : k ≤ xs.length
  · rw [show min k xs.length = k by omega]
  · rw [show min k xs.length = xs.length by omega, List.take_length, List.take_of_length_le (by omega)]
theorem cutV_but (xs : List V) : cutV xs none (some (-1)) = xs.take (xs.length - 1) := by
  unfold cutV
  rw [HT.sIx_none, List.drop_zero, Nat.sub_zero]
  have e : HT.sIx xs.length xs.length (some (-1)) = ((-1 : Int) + (xs.length : Int)).toNat := by unfold HT.sIx; rfl
  rw [e]
  congr 1
  omega
theorem cutV_tail (xs : List V) (k : Nat) : cutV xs (some (k : Int)) none = xs.drop k := by
  unfold cutV
  rw [HT.sIx_nat, HT.sIx_none]
  by_cases h : k ≤ xs.length
  · rw [show min k xs.length = k by omega, List.take_of_length_le (by rw [List.length_drop]; omega)]
  · rw [show min k xs.length = xs.length by omega, List.drop_length, List.drop_of_length_le (by omega), List.take_nil]
theorem no_ask : ∀ z ∈ L8, 63 ∉ zs z := by decide +kernel
theorem DpAll.to {K : PySem.W.Frag} {H : Hp} {xs : List V} {ds : List PyData} (h : DpAll K H xs ds) {n : Nat} : DpAll K H (xs.take n) (ds.take n) := by
  refine dpAll_of (by rw [List.length_take, List.length_take, DpAll.len h]) fun j v d h1 h2 => ?_
  have hj : j < n := by
    have := (List.getElem?_eq_some_iff.mp h1).1
    rw [List.length_take] at this
    omega
  rw [List.getElem?_take_of_lt hj] at h1 h2
  obtain ⟨v', k1, k2⟩ := DpAll.get h h2
  rw [h1] at k1
  cases k1
  exact k2
theorem DpAll.from {K : PySem.W.Frag} {H : Hp} {xs : List V} {ds : List PyData} (h : DpAll K H xs ds) {n : Nat} : DpAll K H (xs.drop n) (ds.drop n) := by
  refine dpAll_of (by rw [List.length_drop, List.length_drop, DpAll.len h]) fun j v d h1 h2 => ?_
  rw [List.getElem?_drop] at h1 h2
  obtain ⟨v', k1, k2⟩ := DpAll.get h h2
  rw [h1] at k1
  cases k1
  exact k2
theorem DpAll.put {K : PySem.W.Frag} {H : Hp} {xs : List V} {ds : List PyData} (h : DpAll K H xs ds) {n : Nat} {v : V} {d : PyData} (hv : Dp K H v d) : DpAll K H (xs.set n v) (ds.set n d) := by
  refine dpAll_of (by rw [List.length_set, List.length_set, DpAll.len h]) fun j u e h1 h2 => ?_
  rw [List.getElem?_set] at h1 h2
  by_cases hj : n = j
  · subst hj
    rw [if_pos rfl] at h1 h2
    split at h1
    · cases h1
      split at h2
      · cases h2
        exact hv
      · cases h2
    · cases h1
  · rw [if_neg hj] at h1 h2
    obtain ⟨v', k1, k2⟩ := DpAll.get h h2
    rw [h1] at k1
    cases k1
    exact k2
theorem hid_in {H H' : Hp} {D : Addr} (s : Same H H') (hD : H D = none) : Same H (hid [D] H') := fun b o e => by
  rw [hid_out (by simp; exact ne_of_none e hD)]
  exact s _ _ e
theorem hid_put {H1 Ha Hf : Hp} {D p : Addr} {o o' : HO} (hD : H1 D = some o') (s : Same H1 Ha) (hp : Ha p = none) (sf : Same (upd Ha p o) Hf) : hid [D] Hf p = some o := by
  rw [hid_out (by simp; exact (ne_of_none (s _ _ hD) hp).symm)]
  exact sf _ _ upd_same
/-- a row that is none, in the place of a row -/
theorem bent_rows {z : Str} {R : Rows} (M : MachOk (zs z) R) (hz : z ∈ L8) (h6 : R.length ≤ 6) {n : Nat} (hn : n < R.length) {d : PyData} (hb : isRowD z R.length d = false) :
    rowsV z (.tuple ((R.map rowD).take n ++ [d] ++ (R.map rowD).drop (n + 1))) = some (.int n) := by
  have hl : ((R.map rowD).take n ++ [d] ++ (R.map rowD).drop (n + 1)).length = R.length := by
    simp; omega
  show (if _ ∧ _ then _ else _) = _
  rw [hl, if_pos ⟨M.pos, h6⟩, badAt_some (i := n) (d := d) ?_ hb ?_]
  · rfl
  · rw [List.append_assoc, List.getElem?_append_right (by simp; omega)]
    simp [Nat.min_eq_left (Nat.le_of_lt hn)]
  · intro j e hj he
    rw [List.append_assoc, List.getElem?_append_left (by simp; omega), List.getElem?_take_of_lt hj] at he
    obtain ⟨row, hrow, rfl⟩ := List.mem_map.mp (List.mem_of_getElem? he)
    exact (row_ok M hz hrow).2
theorem bent_small {z : Str} {R : Rows} (M : MachOk (zs z) R) (hz : z ∈ L8) (h6 : R.length ≤ 6) {n : Nat} (hn : n < R.length) {d : PyData} (hs : smallR d) : smallRows (.tuple ((R.map rowD).take n ++ [d] ++ (R.map rowD).drop (n + 1))) := by
  refine ⟨by simp; omega, fun e he => ?_⟩
  rcases List.mem_append.mp he with h | h
  · rcases List.mem_append.mp h with h | h
    · obtain ⟨row, hrow, rfl⟩ := List.mem_map.mp (List.mem_of_mem_take h)
      exact (row_ok M hz hrow).1
    · rw [List.mem_singleton.mp h]
      exact hs
  · obtain ⟨row, hrow, rfl⟩ := List.mem_map.mp (List.mem_of_mem_drop h)
    exact (row_ok M hz hrow).1
/-- what is no turn -/
def NoTurn (z : Str) (m : Int) (d : PyData) : Prop := isTurnD z m d = false ∧ smallT d
theorem noTurns {z : Str} (hz : z ∈ L8) (m : Nat) : ∀ d ∈ [PyData.tuple [.int m, .str ""], .tuple [.int (-1), .str ""], .tuple [.int 0, .str "?"], .tuple [.int 0, .str z], .tuple [.bool true, .str ""], .list [.int 0, .str ""], .tuple [.int 0], .none, .tuple [.int 0, .none]], NoTurn z m d := by
  have h63 := no_ask z hz
  have hl := l8_len z hz
  intro d hd
  simp only [List.mem_cons, List.not_mem_nil, or_false] at hd
  rcases hd with rfl | rfl | rfl | rfl | rfl | rfl | rfl | rfl | rfl
  · exact ⟨by simp [isTurnD, inB], by show (0 : Nat) ≤ _; omega⟩
  · exact ⟨by simp [isTurnD, inB], by show (0 : Nat) ≤ _; omega⟩
  · refine ⟨?_, by show (1 : Nat) ≤ _; omega⟩
    have : isValD z (.str "?") = false := by
      have e : zs (Str.ofString "?") = [63] := by decide +kernel
      simp only [isValD]
      rw [e]
      simp [h63]
    simp [isTurnD, this]
  · refine ⟨?_, by show z.length ≤ _; omega⟩
    have : len1 (.str z) = false := by show decide _ = false; exact decide_eq_false (by omega)
    simp [isTurnD, this]
  · exact ⟨rfl, by show (0 : Nat) ≤ _; omega⟩
  · exact ⟨rfl, trivial⟩
  · exact ⟨rfl, trivial⟩
  · exact ⟨rfl, trivial⟩
  · exact ⟨by simp [isTurnD, isValD], trivial⟩
section
variable {P : Program} {w : World} {K : PySem.W.Frag} {mg : Str → Option Value} {base : Heap} {A : Ad}
theorem pos60 : (0 : Int) < 60 := by decide
def sp_lbent (K : PySem.W.Frag) : Sp := fun vs H Q _ => ∃ (z : Str) (v : V) (R : Rows) (sd : Int), vs = [.int sd, .str z, v] ∧ 0 ≤ sd ∧ sd < 4611686018427387904 ∧ z ∈ L8 ∧ Dp K H v (rowsD R) ∧ MachOk (zs z) R ∧ R.length ≤ 6 ∧
  ∀ t v1 wv d H', Same H H' → SqT K H' t [v1, wv] → Dp K H' v1 d → smallRows d → ((wv = .non ∧ rowsV z d = none) ∨ (∃ n : Nat, wv = .int n ∧ rowsV z d = some (.int n))) → Q (.ref t) H'
theorem ok_law_bent (T : Txt P K mg A) : FnOk P w K mg base CX0 1 A.a_law_bent A.d_law_bent ["seed", "letters", "rows"] (sp_lbent K) := by
  refine T.f_law_bent.F.ok sc_law_bent (fun vs H Q E h => ?_) (fun cdv Ar outer s H vs Q E hr h => ?_)
  · obtain ⟨z, v, R, sd, rfl, _⟩ := h
    rfl
  · obtain ⟨z, v, R, sd, rfl, s0, s1', hz, hd, M, h6, q⟩ := h
    refine ⟨_, (pss_cons (ps_par (i := 3) (j := 4) (by rfl) sc_law_bent.nd rfl rfl (by decide) rfl rfl (pa_cons (pe_op op_mod (pe_callTy call_int1 (by rfl) T.n_int (by decide +kernel) (pa_cons (pe_op op_fdiv (pv 0) pe_int) pa_nil)) (pe_callB call_len_seq (by rfl) T.n_len (by decide +kernel) (pa_cons (pv 2) pa_nil))) (pa_cons (pe_op op_mod (pe_callTy call_int1 (by rfl) T.n_int (by decide +kernel) (pa_cons (pe_op op_fdiv (pv 0) pe_int) pa_nil)) (pe_callB call_len_str (by rfl) T.n_len (by decide +kernel) (pa_cons (pv 1) pa_nil))) pa_nil)) (by rfl)) (pss_cons (ps_set (i := 5) sc_law_bent.nd rfl (Or.inl rfl) (pe_op op_mod (pe_callTy call_int1 (by rfl) T.n_int (by decide +kernel) (pa_cons (pv 0) pa_nil)) pe_int)) (pss_cons (ps_set (i := 6) sc_law_bent.nd rfl (Or.inl rfl) (pe_callTy call_list_of (by rfl) T.n_list (by decide +kernel) (pa_cons (pe_ix ix_tup (pv 2) (pv 3) (fun _ _ => rfl)) pa_nil))) (pss_cons (ps_set (i := 7) sc_law_bent.nd rfl (Or.inl rfl) (pe_lst (pa_cons (pe_tup (pa_cons (pe_callB call_len_seq (by rfl) T.n_len (by decide +kernel) (pa_cons (pv 2) pa_nil)) (pa_cons pe_str pa_nil))) (pa_cons (pe_tup (pa_cons (pe_un un_neg pe_int) (pa_cons pe_str pa_nil))) (pa_cons (pe_tup (pa_cons pe_int (pa_cons pe_str pa_nil))) (pa_cons (pe_tup (pa_cons pe_int (pa_cons (pv 1) pa_nil))) (pa_cons (pe_tup (pa_cons pe_bl (pa_cons pe_str pa_nil))) (pa_cons (pe_lst (pa_cons pe_int (pa_cons pe_str pa_nil))) (pa_cons (pe_tup (pa_cons pe_int pa_nil)) (pa_cons pe_non (pa_cons (pe_tup (pa_cons pe_int (pa_cons pe_non pa_nil))) pa_nil))))))))))) (pss_cons (ps_if (pt_cmpR op_eq (pv 5) pe_int (nomark _)) (pss_one (ps_ret (pe_tup (pa_cons (pv 2) (pa_cons pe_non pa_nil))))) pss_nil) (pss_cons (ps_if (pt_cmpR op_eq (pv 5) pe_int (nomark _)) (pss_one (ps_set (i := 6) sc_law_bent.nd rfl (Or.inl rfl) (pe_slice sl_list (pv 6) po_none (po_some (pe_un un_neg pe_int))))) (pss_one (ps_if (pt_cmpR op_eq (pv 5) pe_int (nomark _)) (pss_one (ps_expr (pe_bm PySem.F.plainAttrs_list PySem.F.slot_list_append PySem.F.type_list_append mt_append (pv 6) (pa_cons (pe_tup (pa_cons pe_int (pa_cons pe_str pa_nil))) pa_nil)))) (pss_one (ps_asg (pe_ix ix_list (pv 7) (pe_op op_mod (pe_callTy call_int1 (by rfl) T.n_int (by decide +kernel) (pa_cons (pe_op op_fdiv (pv 0) pe_int) pa_nil)) pe_int) (fun _ _ => rfl)) (pg_sub (pv 6) (pv 4) set_list)))))) (pss_cons (ps_set (i := 8) sc_law_bent.nd rfl (Or.inl rfl) (pe_ifExp (pt_cmpR op_lt (pv 5) pe_int (nomark _)) (pe_callTy call_tuple_of (by rfl) T.n_tuple (by decide +kernel) (pa_cons (pv 6) pa_nil)) (pv 6))) (pss_one (ps_ret (pe_tup (pa_cons (pe_op op_catA (pe_op op_catA (pe_slice sl_tupA (pv 2) po_none (po_some (pv 3))) (pe_tup (pa_cons (pv 8) pa_nil))) (pe_slice sl_tupA (pv 2) (po_some (pe_op op_add (pv 3) pe_int)) po_none)) (pa_cons (pv 3) pa_nil)))))))))))), ?_⟩
    obtain ⟨a, xs, rfl, hx, hxa⟩ := Dp.tupOf hd
    have hxl : xs.length = R.length := by rw [DpAll.len hxa, List.length_map]
    have l8 := l8_len z hz
    have Rp : (0 : Int) < (xs.length : Int) := by rw [hxl]; have := M.pos; omega
    refine ⟨_, rfl, _, _, rfl, rfl, ⟨by decide, by decide⟩, .inl ⟨_, rfl, _, rfl, a, xs, rfl, .inr hx, _, _, rfl, rfl, Rp, ?_⟩⟩
    refine ⟨_, rfl, _, _, rfl, rfl, ⟨by decide, by decide⟩, .inl ⟨_, rfl, _, rfl, z, rfl, l8_line hz, _, _, rfl, rfl, l8_pos hz, _, _, rfl, ?_⟩⟩
    have n0 : 0 ≤ sd / 9 % (xs.length : Int) := Int.emod_nonneg _ (by omega)
    have n1 : sd / 9 % (xs.length : Int) < xs.length := Int.emod_lt_of_pos _ Rp
    have m0 : 0 ≤ sd / 60 % (z.length : Int) := Int.emod_nonneg _ (by omega)
    have m1 : sd / 60 % (z.length : Int) < z.length := Int.emod_lt_of_pos _ (l8_pos hz)
    obtain ⟨n, hn⟩ : ∃ n : Nat, sd / 9 % (xs.length : Int) = (n : Int) := ⟨(sd / 9 % (xs.length : Int)).toNat, by omega⟩
    obtain ⟨m, hm⟩ : ∃ m : Nat, sd / 60 % (z.length : Int) = (m : Int) := ⟨(sd / 60 % (z.length : Int)).toNat, by omega⟩
    have hnl : n < R.length := by omega
    have hml : m < z.length := by omega
    obtain ⟨v1, k1, k2⟩ := DpAll.get hxa (i := n) (d := rowD R[n]) (by rw [List.getElem?_map, List.getElem?_eq_getElem hnl]; rfl)
    obtain ⟨b, ys, rfl, hb, hba⟩ := Dp.tupOf k2
    have hRn : R[n].length = z.length := by rw [← zs_length]; exact M.rows _ (List.getElem_mem hnl)
    have hyl : ys.length = z.length := by rw [DpAll.len hba, List.length_map, hRn]
    refine ⟨_, rfl, .inl ⟨_, rfl, _, _, rfl, rfl, pos9, ?_⟩⟩
    generalize hkind : sd % 9 = kind
    have k0 : 0 ≤ kind := by rw [← hkind]; exact Int.emod_nonneg _ (by decide)
    refine ⟨_, rfl, _, rfl, a, xs, _, _, rfl, rfl, hx, (by rw [hn]; exact atI_nat k1), b, ys, rfl, .inr hb, fun D hD => ?_⟩
    have nD : ∀ {H' : Hp}, Same H H' → Same H (hid [D] H') := fun s => hid_in s hD
    refine gName_go ?_
    dsimp only [tSeq]
    refine cut_ts (fun σ1 H1 => ∃ l bs, σ1 = [some (.int sd), some (.str z), some (.ref a), some (.int (sd / 9 % (xs.length : Int))), some (.int (sd / 60 % (z.length : Int))), some (.int (sd % 9)), some (.ref D), some (.ref l), none] ∧
        Same (upd H D (.lst ys)) H1 ∧ H1 l = some (.lst bs) ∧ l ≠ D ∧ bs.length = 9 ∧ ∀ (j : Nat) v, bs[j]? = some v → ∃ d, Dp K (hid [D] H1) v d ∧ NoTurn z R.length d) ?_ ?_
    · rintro _ H2 ⟨l, bs, rfl, sm, hL, lD, bl, bad⟩
      have s2 : Same H H2 := (same_upd hD).trans sm
      have hDD : H2 D = some (.lst ys) := sm _ _ upd_same
      rw [hn, hm, hkind]
      have hba2 : DpAll K (hid [D] H2) ys (R[n].map turnD) := DpAll.same (nD s2) hba
      have rok := row_ok M hz (List.getElem_mem hnl)
      refine ⟨_, rfl, rfl, _, rfl, ?_⟩
      by_cases e0 : kind = 0
      · exact iteD1 (by rw [dec_int, e0]; rfl) ⟨_, rfl, by show 2 ≤ sizeLine; decide, fun t ht => q t (.ref a) .non (rowsD R) _ (s2.trans (same_upd ht)) (SqT.of upd_same) (Dp.same (s2.trans (same_upd ht)) hd) (rows_fine M hz h6).2 (.inl ⟨rfl, (rows_fine M hz h6).1⟩)⟩
      refine iteD0 (by rw [dec_int]; exact decide_eq_false e0) ?_
      dsimp only [tNext, tSeq]
      refine cut_ts (t := tIfS _ _ _) (fun σ1 H3 => ∃ (q0 : Addr) (xs' : List V) (ds' : List PyData), σ1 = [some (.int sd), some (.str z), some (.ref a), some (.int n), some (.int m), some (.int kind), some (.ref q0), some (.ref l), none] ∧ Same H H3 ∧ H3 q0 = some (.lst xs') ∧ DpAll K H3 xs' ds' ∧ isRowD z R.length (.tuple ds') = false ∧ smallR (.tuple ds')) ?_ ?_
      · rintro _ H3 ⟨q0, xs', ds', rfl, s3, hq0, hxa', hbad, hsm⟩
        dsimp only [tNext, tSeq]
        refine cut_ts (t := tAsg _ (gName 8)) (fun σ1 H4 => ∃ (u : V) (d : PyData), σ1 = [some (.int sd), some (.str z), some (.ref a), some (.int n), some (.int m), some (.int kind), some (.ref q0), some (.ref l), some u] ∧ Same H H4 ∧ Dp K H4 u d ∧ isRowD z R.length d = false ∧ smallR d) ?_ ?_
        · rintro _ H4 ⟨u, d, rfl, s4, hu, hbd, hsd⟩
          refine ⟨_, rfl, ?_⟩
          unfold tNoPart
          dsimp only
          refine ⟨_, rfl, _, rfl, slice_go (SqT.same s4 hx) fun t5 H5 s5 h5 => ?_⟩
          refine ⟨_, rfl, by show 1 ≤ sizeLine; decide, fun p6 h6' => cat_go (SqT.same (same_upd h6') h5) (SqT.of upd_same) ?_ fun t7 H7 s7 h7 => ?_⟩
          · show (cutV xs none (some (n : Int))).length + 1 ≤ sizeLine
            rw [cutV_head, List.length_take]
            exact Nat.le_trans (show _ ≤ 7 by omega) (by decide)
          have s47 := s5.trans ((same_upd h6').trans s7)
          refine ⟨_, rfl, _, rfl, _, _, rfl, rfl, _, rfl, slice_go (SqT.same (s4.trans s47) hx) fun t8 H8 s8 h8 => ?_⟩
          rw [show ((n : Int) + 1) = ((n + 1 : Nat) : Int) by omega, cutV_tail] at h8
          rw [cutV_head] at h7
          refine cat_go (SqT.same s8 h7) h8 ?_ fun t9 H9 s9 h9 => ?_
          · rw [List.length_append, List.length_take, List.length_drop]
            exact Nat.le_trans (show _ ≤ 13 by simp; omega) (by decide)
          refine ⟨_, rfl, by show 2 ≤ sizeLine; decide, fun t ht => ?_⟩
          have sE := s47.trans (s8.trans (s9.trans (same_upd (o := .tup [V.ref t9, V.int n]) ht)))
          refine q t (.ref t9) (.int n) (.tuple ((R.map rowD).take n ++ [d] ++ (R.map rowD).drop (n + 1))) _ (s4.trans sE) (SqT.of upd_same) (.tup (SqT.same (same_upd ht) h9) ?_) (bent_small M hz h6 hnl hsd) (.inr ⟨n, rfl, bent_rows M hz h6 hnl hbd⟩)
          exact DpAll.app (DpAll.app (DpAll.to (DpAll.same (s4.trans sE) hxa)) (.cons (Dp.same sE hu) .nil)) (DpAll.from (DpAll.same (s4.trans sE) hxa))
        · intro nx kk
          refine ⟨_, rfl, _, _, rfl, rfl, _, rfl, ?_⟩
          by_cases e8 : kind < 8
          · refine iteD1 (decide_eq_true e8) ⟨_, rfl, q0, xs', rfl, .inl ⟨SqL.of hq0, fun u hu => kk _ _ ⟨.ref u, .tuple ds', rfl, s3.trans (same_upd hu), Dp.tupNew upd_same (DpAll.same (same_upd hu) hxa'), hbad, hsm⟩⟩⟩
          · exact iteD0 (decide_eq_false e8) ⟨_, rfl, kk _ _ ⟨.ref q0, .list ds', rfl, s3, .lst (SqL.of hq0) hxa', rfl, trivial⟩⟩
      · intro nx kk
        refine ⟨_, rfl, rfl, _, rfl, ?_⟩
        by_cases e1 : kind = 1
        · refine iteD1 (by rw [dec_int, e1]; rfl) ⟨_, rfl, ?_⟩
          unfold tNoPart
          dsimp only
          refine ⟨1, rfl, _, rfl, D, ys, rfl, SqL.of hDD, fun p hp => kk _ _ ⟨p, _, (R[n].map turnD).take (z.length - 1), rfl, s2.trans (same_upd hp), upd_same, ?_, ?_, ?_⟩⟩
          · rw [cutV_but, hyl]
            exact DpAll.to (DpAll.same (s2.trans (same_upd hp)) hba)
          · show (decide (_ = z.length) && _) = false
            rw [decide_eq_false (by rw [List.length_take, List.length_map]; omega)]
            rfl
          · refine ⟨by rw [List.length_take]; omega, fun t ht => rok.1.2 t (List.mem_of_mem_take ht)⟩
        refine iteD0 (by rw [dec_int]; exact decide_eq_false e1) ⟨_, rfl, rfl, _, rfl, ?_⟩
        by_cases e2 : kind = 2
        · refine iteD1 (by rw [dec_int, e2]; rfl) ⟨_, rfl, .inl ⟨rfl, _, SqL.of hDD⟩, by show 2 ≤ sizeLine; decide, fun p hp => ⟨D, ys, _, rfl, rfl, same_upd hp _ _ hDD, Nat.lt_of_le_of_lt (show _ ≤ 4 by omega) (by decide), kk _ _ ⟨D, _, R[n].map turnD ++ [.tuple [.int 0, .str ""]], rfl, ?_, upd_same, ?_, ?_, ?_⟩⟩⟩
          · exact Same.set (s2.trans (same_upd hp)) hD
          · have nDp : p ≠ D := (ne_of_none hDD hp).symm
            refine DpAll.app (DpAll.same (Same.set (s2.trans (same_upd hp)) hD) hba) (.cons (Dp.tupNew (by rw [upd_ne nDp]; exact upd_same) (.cons (.int _) (.cons (.str _) .nil))) .nil)
          · show (decide (_ = z.length) && _) = false
            rw [decide_eq_false (by rw [List.length_append, List.length_map]; simp; omega)]
            rfl
          · refine ⟨by rw [List.length_append, List.length_map]; simp; omega, fun t ht => ?_⟩
            rcases List.mem_append.mp ht with h | h
            · exact rok.1.2 t h
            · rw [List.mem_singleton.mp h]
              show (0 : Nat) ≤ _
              omega
        · have j0 : 0 ≤ sd / 500 % 9 := Int.emod_nonneg _ (by decide)
          have j1 : sd / 500 % 9 < 9 := Int.emod_lt_of_pos _ (by decide)
          obtain ⟨j, hj⟩ : ∃ j : Nat, sd / 500 % 9 = (j : Int) := ⟨(sd / 500 % 9).toNat, by omega⟩
          have hjl : j < bs.length := by omega
          obtain ⟨d, hd1, hd2, hd3⟩ := bad j bs[j] (List.getElem?_eq_getElem hjl)
          refine iteD0 (by rw [dec_int]; exact decide_eq_false e2) ⟨_, rfl, _, rfl, _, _, rfl, rfl, ⟨by decide, by decide⟩, .inl ⟨_, rfl, _, _, rfl, rfl, pos9, l, bs, _, bs[j], rfl, rfl, SqL.of hL, (by rw [hj]; exact atI_nat (List.getElem?_eq_getElem hjl)), _, rfl, _, rfl, D, ys, m, m, rfl, rfl, hDD, ?_, kk _ _ ⟨D, _, (R[n].map turnD).set m d, rfl, ?_, upd_same, ?_, ?_, ?_⟩⟩⟩
          · show (if _ then (if _ then _ else _) else _) = _
            rw [if_pos (by omega), if_pos (by omega)]
            simp
          · exact Same.set s2 hD
          · refine DpAll.put (DpAll.same (Same.set s2 hD) hba) (Dp.same (fun b o e => ?_) hd1)
            have hb : b ≠ D := fun h => by rw [h, hid] at e; simp at e
            rw [upd_ne hb]
            exact hid_sub _ _ _ _ e
          · show (decide _ && List.all _ _) = false
            rw [Bool.and_eq_false_iff]
            refine .inr (List.all_eq_false.mpr ⟨d, ?_, by rw [hd2]; decide⟩)
            exact List.mem_iff_getElem?.mpr ⟨m, by rw [List.getElem?_set_self (by rw [List.length_map]; omega)]⟩
          · refine ⟨by rw [List.length_set, List.length_map]; omega, fun t ht => ?_⟩
            rcases List.mem_or_eq_of_mem_set ht with h | h
            · exact rok.1.2 t h
            · rw [h]
              exact hd3
    · intro nx kk
      refine ⟨_, rfl, a, xs, rfl, .inr (SqT.same (same_upd hD) hx), ?_⟩
      have hDa : (upd H D (.lst ys)) D = some (.lst ys) := upd_same
      refine ⟨by show 2 ≤ sizeLine; decide, fun p1 h1 => ⟨1, rfl, by show 2 ≤ sizeLine; decide, fun p2 h2 => ⟨by show 2 ≤ sizeLine; decide, fun p3 h3 => ⟨_, rfl, by show 2 ≤ sizeLine; decide, fun p4 h4 => ⟨by show 2 ≤ sizeLine; decide, fun p5 h5 => ⟨by show 2 ≤ sizeLine; decide, fun p6 h6 => ⟨by show 1 ≤ sizeLine; decide, fun p7 h7 => ⟨by show 2 ≤ sizeLine; decide, fun p8 h8 => ⟨by show 9 ≤ sizeLine; decide, fun l hl => ?_⟩⟩⟩⟩⟩⟩⟩⟩⟩
      have t1 := same_upd (o := .tup [V.int (xs.length : Nat), V.str (Str.ofString "")]) h1
      have t2 := same_upd (o := .tup [V.int (-1), V.str (Str.ofString "")]) h2
      have t3 := same_upd (o := .tup [V.int 0, V.str (Str.ofString "?")]) h3
      have t4 := same_upd (o := .tup [V.int 0, V.str z]) h4
      have t5 := same_upd (o := .tup [V.bl true, V.str (Str.ofString "")]) h5
      have t6 := same_upd (o := .lst [V.int 0, V.str (Str.ofString "")]) h6
      have t7 := same_upd (o := .tup [V.int 0]) h7
      have t8 := same_upd (o := .tup [V.int 0, V.non]) h8
      have t9 := same_upd (o := .lst [V.ref p1, V.ref p2, V.ref p3, V.ref p4, V.ref p5, V.ref p6, V.ref p7, V.non, V.ref p8]) hl
      have u8 := t8.trans t9
      have u7 := t7.trans u8
      have u6 := t6.trans u7
      have u5 := t5.trans u6
      have u4 := t4.trans u5
      have u3 := t3.trans u4
      have u2 := t2.trans u3
      have w2 := t1.trans t2
      have w3 := w2.trans t3
      have w4 := w3.trans t4
      have w5 := w4.trans t5
      have w6 := w5.trans t6
      have w7 := w6.trans t7
      have w8 := w7.trans t8
      have nt := noTurns hz R.length
      refine kk _ _ ⟨l, _, rfl, w8.trans t9, upd_same, (ne_of_none (w8 _ _ hDa) hl).symm, rfl, fun j v hj => ?_⟩
      have g1 := hid_put hDa (Same.refl _) h1 u2
      have g2 := hid_put hDa t1 h2 u3
      have g3 := hid_put hDa w2 h3 u4
      have g4 := hid_put hDa w3 h4 u5
      have g5 := hid_put hDa w4 h5 u6
      have g6 := hid_put hDa w5 h6 u7
      have g7 := hid_put hDa w6 h7 u8
      have g8 := hid_put hDa w7 h8 t9
      rcases j with _ | _ | _ | _ | _ | _ | _ | _ | _ | j
      · cases hj
        exact ⟨_, Dp.tupNew g1 (.cons (.int _) (.cons (.str _) .nil)), by rw [hxl]; exact nt _ (by simp)⟩
      · cases hj
        exact ⟨_, Dp.tupNew g2 (.cons (.int _) (.cons (.str _) .nil)), nt _ (by simp)⟩
      · cases hj
        exact ⟨_, Dp.tupNew g3 (.cons (.int _) (.cons (.str _) .nil)), nt _ (by simp)⟩
      · cases hj
        exact ⟨_, Dp.tupNew g4 (.cons (.int _) (.cons (.str _) .nil)), nt _ (by simp)⟩
      · cases hj
        exact ⟨_, Dp.tupNew g5 (.cons (.bl _) (.cons (.str _) .nil)), nt _ (by simp)⟩
      · cases hj
        exact ⟨_, Dp.lstNew g6 (.cons (.int _) (.cons (.str _) .nil)), nt _ (by simp)⟩
      · cases hj
        exact ⟨_, Dp.tupNew g7 (.cons (.int _) .nil), nt _ (by simp)⟩
      · cases hj
        exact ⟨_, .non, nt _ (by simp)⟩
      · cases hj
        exact ⟨_, Dp.tupNew g8 (.cons (.int _) (.cons .non .nil)), nt _ (by simp)⟩
      · cases hj
end
end K1
set_option Elab.async false
set_option linter.all false
set_option maxRecDepth 100000
set_option maxHeartbeats 8000000
namespace K1
open PySem PySem.Spec PyProof.Rows L2 FX
/-- the last letter of a text, or what came ahead of it -/
def lastD (l : List Nat) : List Nat → List Nat
  | [] => l
  | c :: r => lastD [c] r
theorem lastD_snoc : ∀ (u l : List Nat) (c : Nat), lastD l (u ++ [c]) = [c]
  | [], _, _ => rfl
  | d :: u, _, c => lastD_snoc u [d] c
theorem foldS_snoc (m : List Nat) : ∀ (u l : List Nat) (c : Nat), foldS m l (u ++ [c]) = foldS m l u ++ (if [c] = lastD l u ∧ c ∈ m then [] else [c])
  | [], l, c => by
    show _ ++ [] = [] ++ _
    rw [List.append_nil]
    rfl
  | d :: u, l, c => by
    show _ ++ foldS m [d] (u ++ [c]) = (_ ++ foldS m [d] u) ++ _
    rw [foldS_snoc m u [d] c, List.append_assoc]
    rfl
theorem foldS_len (m : List Nat) : ∀ (u l : List Nat), (foldS m l u).length ≤ u.length
  | [], _ => Nat.le_refl _
  | d :: u, l => by
    have ih := foldS_len m u [d]
    show (_ ++ foldS m [d] u).length ≤ u.length + 1
    rw [List.length_append]
    split <;> simp <;> omega
theorem dropS_step {m t : List Nat} {b c : Nat} (h : t[b]? = some c) (hm : c ∈ m) : dropS m (t.drop b) = dropS m (t.drop (b + 1)) := by
  have hb := (List.getElem?_eq_some_iff.mp h)
  obtain ⟨h1, h2⟩ := hb
  rw [List.drop_eq_getElem_cons h1, h2, dropS, if_pos hm]
theorem dropS_stop {m t : List Nat} {b : Nat} (h : t.length ≤ b ∨ ∃ c, t[b]? = some c ∧ c ∉ m) : dropS m (t.drop b) = t.drop b := by
  rcases h with h | ⟨c, h, hm⟩
  · rw [List.drop_of_length_le h]
    rfl
  · obtain ⟨h1, h2⟩ := (List.getElem?_eq_some_iff.mp h)
    rw [List.drop_eq_getElem_cons h1, h2, dropS, if_neg hm]
theorem strS_eq (a b : List Nat) : decide (V.str (S a) = V.str (S b)) = decide (a = b) := decide_eq_decide.mpr ⟨fun h => S_inj (V.str.inj h), fun h => by rw [h]⟩
theorem ne_str {l : List Nat} {x : Str} (h : l = zs x) : (!decide (V.str (S l) = V.str x)) = false := by
  rw [h, S_zs]
  simp
theorem ne_strS {l l' : List Nat} (h : l = l') : (!decide (V.str (S l) = V.str (S l'))) = false := by
  rw [h]
  simp
theorem l8_last : ∀ z ∈ L8, atI (zs z) (-1) = some ((zs z).getLast?.getD 0) ∧ (zs z).getLast?.getD 0 ∈ zs z := by decide +kernel
theorem map_of {α : Type} {ys : List V} {t : List α} {f : α → V} (hn : ys.length = t.length) (h : ∀ (j : Nat) v, ys[j]? = some v → ∃ c, t[j]? = some c ∧ v = f c) : ys = t.map f := by
  refine List.ext_getElem? fun j => ?_
  rw [List.getElem?_map]
  cases hj : ys[j]? with
  | none =>
    have := List.getElem?_eq_none_iff.mp hj
    rw [List.getElem?_eq_none_iff.mpr (by omega)]
    rfl
  | some v =>
    obtain ⟨c, hc, rfl⟩ := h j v hj
    rw [hc]
    rfl
theorem cutS_tail (x : Str) (k : Nat) : cutS x (some (k : Int)) none = S ((zs x).drop k) := by
  unfold cutS
  rw [HT.sIx_nat, HT.sIx_none]
  have hl : x.cps.toList.length = x.length := by simp [Str.length]
  refine congrArg (fun l => (⟨l⟩ : Str)) ?_
  by_cases h : k ≤ x.length
  · rw [show min k x.length = k by omega]
    simp [zs, hl, List.take_of_length_le]
  · rw [show min k x.length = x.length by omega]
    simp [zs, hl, List.drop_of_length_le, List.drop_of_length_le (show x.cps.toList.length ≤ k by omega)]
theorem cutS_head (x : Str) (k : Nat) : cutS x none (some (k : Int)) = S ((zs x).take k) := by
  unfold cutS
  rw [HT.sIx_nat, HT.sIx_none]
  have hl : x.cps.toList.length = x.length := by simp [Str.length]
  refine congrArg (fun l => (⟨l⟩ : Str)) ?_
  by_cases h : k ≤ x.length
  · rw [show min k x.length = k by omega]
    simp [zs]
  · rw [show min k x.length = x.length by omega]
    simp [zs, hl, List.take_of_length_le (show x.cps.toList.length ≤ k by omega), List.take_of_length_le (show x.cps.toList.length ≤ x.length by omega)]
section
variable {P : Program} {w : World} {K : PySem.W.Frag} {mg : Str → Option Value} {base : Heap} {A : Ad}
theorem made_go {H : Hp} {p : Addr} {z x : Str} {R : Rows} {Q : VK} {E : XK} (hM : IsM K A.C H p z R) (hx : x.length ≤ 100) (hxz : ∀ c ∈ zs x, c ∈ zs z) (q : ∀ H', Same H H' → Q (.str (S (madeM (zs z) R (zs x)))) H') : sp_made K A [.ref p, .str x] H Q E :=
  ⟨p, _, .str x, z, R, rfl, hM, .str x, (by show x.length ≤ 100000; omega), fun x' e _ H' s => by cases e; exact q H' s, fun e => absurd (isVal_of hxz) (by rw [e]; exact Bool.false_ne_true)⟩
theorem after_go {H : Hp} {p : Addr} {z x : Str} {R : Rows} {Q : VK} {E : XK} (hM : IsM K A.C H p z R) (hx : x.length ≤ 100) (hxz : ∀ c ∈ zs x, c ∈ zs z) (q : ∀ H', Same H H' → Q (.int ((runM (zs z) R 0 (zs x)).1 : Nat)) H') : sp_state_after K A [.ref p, .str x] H Q E :=
  ⟨p, _, .str x, z, R, rfl, hM, .str x, (by show x.length ≤ 100000; omega), fun x' e _ H' s => by cases e; exact q H' s, fun e => absurd (isVal_of hxz) (by rw [e]; exact Bool.false_ne_true)⟩
theorem dpStrs {H : Hp} : ∀ os : List (List Nat), DpAll K H (os.map fun o => V.str (S o)) (os.map fun o => PyData.str (S o))
  | [] => .nil
  | o :: os => .cons (.str _) (dpStrs os)
def sp_lready (K : PySem.W.Frag) : Sp := fun vs H Q _ => ∃ (z x m : Str) (n : Nat), vs = [.str z, .str x, .str m, .int n] ∧ z ∈ L8 ∧ x.length ≤ 100 ∧ (∀ c ∈ zs x, c ∈ zs z) ∧ m.length ≤ 100 ∧ (∀ c ∈ zs m, c ∈ zs z) ∧ n ≤ 5 ∧ ∀ H', Same H H' → Q (.bl true) H'
theorem ok_law_ready_right (T : Txt P K mg A) : FnOk P w K mg base CX0 8 A.a_law_ready_right A.d_law_ready_right ["letters", "value", "some", "many"] (sp_lready K) := by
  refine T.f_law_ready_right.F.ok sc_law_ready_right (fun vs H Q E h => ?_) (fun cdv Ar outer s H vs Q E hr h => ?_)
  · obtain ⟨z, x, m, n, rfl, _⟩ := h
    rfl
  · obtain ⟨z, x, m, n, rfl, hz, hx, hxz, hm, hmz, hn, q⟩ := h
    refine ⟨_, (pss_cons (ps_asg (pe_tup (pa_cons pe_int (pa_cons pe_str (pa_cons pe_str pa_nil)))) (pg_tup (by rfl) (pgs_cons (pg_name (i := 4) sc_law_ready_right.nd rfl (Or.inl rfl)) (pgs_cons (pg_name (i := 5) sc_law_ready_right.nd rfl (Or.inl rfl)) (pgs_cons (pg_name (i := 6) sc_law_ready_right.nd rfl (Or.inl rfl)) pgs_nil))))) (pss_cons (ps_while PassesOwn.never (PW.pt (pw_and (pt_cmpR op_lt (pv 4) (pe_callB call_len_str (by rfl) T.n_len (by decide +kernel) (pa_cons (pv 1) pa_nil)) (nomark _)) (pw_and1 (pt_cmpR op_in_sign (pe_ix ix_str (pv 1) (pv 4) (fun _ _ => rfl)) (pv 2) rfl)))) (pss_one (ps_set (i := 4) sc_law_ready_right.nd rfl (Or.inl rfl) (pe_op op_add (pv 4) pe_int)))) (pss_cons (ps_for PassesOwn.never rfl (pi_str (pv 1)) (pg_name (i := 7) sc_law_ready_right.nd rfl (Or.inl rfl)) (pss_cons (ps_set (i := 5) sc_law_ready_right.nd rfl (Or.inl rfl) (pe_op op_add_str (pv 5) (pe_ifExp (PW.pt (pw_and (pt_cmpR op_eq (pv 7) (pv 6) (nomark _)) (pw_and1 (pt_cmpR op_in_sign (pv 7) (pv 2) rfl)))) pe_str (pv 7)))) (pss_one (ps_set (i := 6) sc_law_ready_right.nd rfl (Or.inl rfl) (pv 7))))) (pss_cons (ps_set (i := 8) sc_law_ready_right.nd rfl (Or.inr rfl) (pe_callTy call_tuple_of (by rfl) T.n_tuple (by decide +kernel) (pa_cons (pe_lc (own := [("letter", 7)]) (g := (gName 7)) (tt := tYes) (by rfl) sc_law_ready_right.nd (pi_str (pv 0)) (blkOk_by (own := [("letter", 7)]) (N := ["letters", "value", "some", "many", "begin", "found", "last", "letter", "outs", "ready", "sizes", "one"]) (sc := defScope s_law_ready_right) (by decide +kernel)) (fun _ _ _ _ _ => (pg_name (i := 7) sc_law_ready_right.nd rfl (Or.inl rfl))) (fun _ _ _ _ _ => pts_nil) (fun _ _ _ _ _ => by exact (pe_ifExp (pt_cmpR op_in_sign (pv 7) (pv 2) rfl) pe_str (pe_ix ix_str (pv 0) (pe_un un_neg pe_int) (fun _ _ => rfl))))) pa_nil))) (pss_cons (ps_if (PW.pt (pw_or (pt_cmpR op_ne (pe_meth (pe_call (ok_plain T) (hr.mono (by decide)) (by rfl) T.f_plain.g T.f_plain.F.kp T.f_plain.b .nil passL (pa_cons (pv 0) pa_nil)) T.cl T.m_made (ok_Machine_made T) (hr.mono (by decide)) T.f_Machine_made.b .nil passL (pa_cons (pv 1) pa_nil)) (pv 1) (nomark _)) (pw_or1 (pt_cmpR op_ne (pe_meth (pe_call (ok_cut T) (hr.mono (by decide)) (by rfl) T.f_cut.g T.f_cut.F.kp T.f_cut.b .nil pass0 (pa_cons (pv 0) (pa_cons (pv 3) pa_nil))) T.cl T.m_made (ok_Machine_made T) (hr.mono (by decide)) T.f_Machine_made.b .nil passL (pa_cons (pv 1) pa_nil)) (pe_slice sl_str (pv 1) po_none (po_some (pv 3))) (nomark _))))) (pss_one (ps_ret pe_bl)) pss_nil) (pss_cons (ps_if (PW.pt (pw_or (pt_cmpR op_ne (pe_meth (pe_call (ok_stripped T) (hr.mono (by decide)) (by rfl) T.f_stripped.g T.f_stripped.F.kp T.f_stripped.b .nil pass0 (pa_cons (pv 0) (pa_cons (pv 2) pa_nil))) T.cl T.m_made (ok_Machine_made T) (hr.mono (by decide)) T.f_Machine_made.b .nil passL (pa_cons (pv 1) pa_nil)) (pe_slice sl_str (pv 1) (po_some (pv 4)) po_none) (nomark _)) (pw_or1 (pt_cmpR op_ne (pe_meth (pe_call (ok_squeezed T) (hr.mono (by decide)) (by rfl) T.f_squeezed.g T.f_squeezed.F.kp T.f_squeezed.b .nil pass0 (pa_cons (pv 0) (pa_cons (pv 2) pa_nil))) T.cl T.m_made (ok_Machine_made T) (hr.mono (by decide)) T.f_Machine_made.b .nil passL (pa_cons (pv 1) pa_nil)) (pv 5) (nomark _))))) (pss_one (ps_ret pe_bl)) pss_nil) (pss_cons (ps_if (pt_cmpR op_ne (pe_meth (pe_call (ok_mapped T) (hr.mono (by decide)) (by rfl) T.f_mapped.g T.f_mapped.F.kp T.f_mapped.b .nil pass0 (pa_cons (pv 0) (pa_cons (pv 8) pa_nil))) T.cl T.m_made (ok_Machine_made T) (hr.mono (by decide)) T.f_Machine_made.b .nil passL (pa_cons (pv 1) pa_nil)) (pe_join pe_str (pe_lc (own := [("letter", 7)]) (g := (gName 7)) (tt := tYes) (by rfl) sc_law_ready_right.nd (pi_str (pv 1)) (blkOk_by (own := [("letter", 7)]) (N := ["letters", "value", "some", "many", "begin", "found", "last", "letter", "outs", "ready", "sizes", "one"]) (sc := defScope s_law_ready_right) (by decide +kernel)) (fun _ _ _ _ _ => (pg_name (i := 7) sc_law_ready_right.nd rfl (Or.inl rfl))) (fun _ _ _ _ _ => pts_nil) (fun _ _ _ _ _ => by exact (pe_ix (show IxR _ (rIxT K) from ix_tup) (pv 8) (pe_m1 PySem.F.slot_str_index PySem.F.type_str_index mt_sindex (pv 0) (pv 7)) (fun _ _ => rfl))))) (nomark _)) (pss_one (ps_ret pe_bl)) pss_nil) (pss_cons (ps_set (i := 9) sc_law_ready_right.nd rfl (Or.inl rfl) (pe_tup (pa_cons (pe_call (ok_plain T) (hr.mono (by decide)) (by rfl) T.f_plain.g T.f_plain.F.kp T.f_plain.b .nil passL (pa_cons (pv 0) pa_nil)) (pa_cons (pe_call (ok_cut T) (hr.mono (by decide)) (by rfl) T.f_cut.g T.f_cut.F.kp T.f_cut.b .nil pass0 (pa_cons (pv 0) (pa_cons (pv 3) pa_nil))) (pa_cons (pe_call (ok_stripped T) (hr.mono (by decide)) (by rfl) T.f_stripped.g T.f_stripped.F.kp T.f_stripped.b .nil pass0 (pa_cons (pv 0) (pa_cons (pv 2) pa_nil))) (pa_cons (pe_call (ok_squeezed T) (hr.mono (by decide)) (by rfl) T.f_squeezed.g T.f_squeezed.F.kp T.f_squeezed.b .nil pass0 (pa_cons (pv 0) (pa_cons (pv 2) pa_nil))) pa_nil)))))) (pss_cons (ps_setLc (i := 10) (own := [("one", 11)]) (g := (gName 11)) (tt := tYes) (by rfl) sc_law_ready_right.nd rfl rfl (sw_true rfl rfl rfl (by decide +kernel)) (pi_tup (pv 9)) (blkOk_by (own := [("one", 11)]) (N := ["letters", "value", "some", "many", "begin", "found", "last", "letter", "outs", "ready", "sizes", "one"]) (sc := defScope s_law_ready_right) (by decide +kernel)) (fun _ _ _ _ _ => (pg_name (i := 11) sc_law_ready_right.nd rfl (Or.inl rfl))) (fun _ _ _ _ _ => pts_nil) (fun _ _ _ _ _ => by exact (pe_callB (call_lenOwn (ok_Machine_len T) (hr.mono (by decide)) T.m_len.at_ T.m_len.fn T.f_Machine_len.b) (by rfl) T.n_len (by decide +kernel) (pa_cons (pv 11) pa_nil)))) (pss_cons (ps_if (PW.pt (pw_or (pt_cmpR (op_neD hr.units) (pv 10) (pe_lst (pa_cons pe_int (pa_cons (pe_op op_add (pv 3) pe_int) (pa_cons pe_int (pa_cons (pe_op op_add (pe_callB call_len_str (by rfl) T.n_len (by decide +kernel) (pa_cons (pv 0) pa_nil)) pe_int) pa_nil))))) (nomark _)) (pw_or1 (pt_cmpR op_ne (pe_meth (pe_call (ok_cut T) (hr.mono (by decide)) (by rfl) T.f_cut.g T.f_cut.F.kp T.f_cut.b .nil pass0 (pa_cons (pv 0) (pa_cons (pv 3) pa_nil))) T.cl T.m_state_after (ok_Machine_state_after T) (hr.mono (by decide)) T.f_Machine_state_after.b .nil passL (pa_cons (pv 1) pa_nil)) (pe_callB (call_min2 rfl) (by rfl) T.n_min (by decide +kernel) (pa_cons (pv 3) (pa_cons (pe_callB call_len_str (by rfl) T.n_len (by decide +kernel) (pa_cons (pv 1) pa_nil)) pa_nil))) (nomark _))))) (pss_one (ps_ret pe_bl)) pss_nil) (pss_one (ps_ret (pe_cmpR op_eq (pe_meth (pe_call (ok_squeezed T) (hr.mono (by decide)) (by rfl) T.f_squeezed.g T.f_squeezed.F.kp T.f_squeezed.b .nil pass0 (pa_cons (pv 0) (pa_cons (pv 2) pa_nil))) T.cl T.m_state_after (ok_Machine_state_after T) (hr.mono (by decide)) T.f_Machine_state_after.b .nil passL (pa_cons (pv 1) pa_nil)) (pe_ifExp (pt_cmpR op_ne (pv 1) pe_str (nomark _)) (pe_op op_add (pe_m1 PySem.F.slot_str_index PySem.F.type_str_index mt_sindex (pv 0) (pe_ix ix_str (pv 1) (pe_un un_neg pe_int) (fun _ _ => rfl))) pe_int) pe_int) (nomark _)))))))))))))), ?_⟩
    refine ⟨by show 3 ≤ sizeLine; decide, fun p hp => ⟨p, _, rfl, SqT.of upd_same, rfl, _, _, rfl, _, _, rfl, _, _, rfl, rfl, ?_⟩⟩
    have xl : x.length ≤ sizeLine := Nat.le_trans hx (by decide)
    have xn : (zs x).length = x.length := zs_length x
    have s1 : Same H (upd H p (.tup [V.int 0, V.str (Str.ofString ""), V.str (Str.ofString "")])) := same_upd hp
    generalize upd H p (.tup [V.int 0, V.str (Str.ofString ""), V.str (Str.ofString "")]) = H1 at s1 ⊢
    refine seq_cut (t := tWhile _ _) (fun σ H' => H' = H1 ∧ ∃ b : Nat, b ≤ x.length ∧ σ = [some (.str z), some (.str x), some (.str m), some (.int n), some (.int b), some (.str (S [])), some (.str (S [])), none, none, none, none, none] ∧ dropS (zs m) (zs x) = (zs x).drop b) ?_ ?_
    rotate_left
    · intro nx kk
      refine ⟨fun k σ H' => ∃ b : Nat, k = x.length - b ∧ b ≤ x.length ∧ H' = H1 ∧ σ = [some (.str z), some (.str x), some (.str m), some (.int n), some (.int b), some (.str (S [])), some (.str (S [])), none, none, none, none, none] ∧ dropS (zs m) (zs x) = dropS (zs m) ((zs x).drop b), ⟨_, 0, rfl, Nat.zero_le _, rfl, rfl, rfl⟩, ?_⟩
      rintro k σ H' ⟨b, rfl, hb, rfl, rfl, hd⟩
      refine ⟨_, rfl, _, rfl, x, rfl, xl, _, _, rfl, rfl, _, rfl, ?_⟩
      by_cases hbl : b < x.length
      · obtain ⟨c, hc⟩ : ∃ c, (zs x)[b]? = some c := ⟨_, List.getElem?_eq_getElem (by omega)⟩
        rw [show decide ((b : Int) < (x.length : Int)) = true from decide_eq_true (by omega)]
        refine iteT ⟨_, rfl, _, rfl, x, b, c, rfl, rfl, xl, atI_nat hc, _, rfl, c, m, rfl, rfl, _, rfl, ?_⟩
        by_cases hcm : c ∈ zs m
        · rw [show decide (c ∈ m.cps.toList) = true from decide_eq_true hcm]
          refine iteT ⟨fun σ H2 => σ = [some (.str z), some (.str x), some (.str m), some (.int n), some (.int (b + 1 : Nat)), some (.str (S [])), some (.str (S [])), none, none, none, none, none] ∧ H2 = H', ?_, ?_⟩
          · rintro σ' H2 ⟨rfl, rfl⟩
            exact ⟨x.length - (b + 1), by omega, b + 1, rfl, hbl, rfl, rfl, by rw [hd, dropS_step hc hcm]⟩
          · exact ⟨_, rfl, _, _, rfl, rfl, rfl, rfl⟩
        · rw [show decide (c ∈ m.cps.toList) = false from decide_eq_false hcm]
          exact iteF (kk _ _ ⟨rfl, b, hb, rfl, by rw [hd, dropS_stop (.inr ⟨c, hc, hcm⟩)]⟩)
      · rw [show decide ((b : Int) < (x.length : Int)) = false from decide_eq_false (by omega)]
        exact iteF (kk _ _ ⟨rfl, b, hb, rfl, by rw [hd, dropS_stop (.inl (by omega))]⟩)
    rintro σ H' ⟨rfl, b, hb, rfl, hd⟩
    refine seq_cut (t := tFor _ _ _) (fun σ H2 => H2 = H' ∧ ∃ o6 o7, σ = [some (.str z), some (.str x), some (.str m), some (.int n), some (.int b), some (.str (S (foldS (zs m) [] (zs x)))), o6, o7, none, none, none, none]) ?_ ?_
    rotate_left
    · intro nx kk
      refine ⟨_, rfl, x, rfl, ?_⟩
      refine for_it walk_str (fun i σ H2 => H2 = H' ∧ ∃ o7, σ = [some (.str z), some (.str x), some (.str m), some (.int n), some (.int b), some (.str (S (foldS (zs m) [] ((zs x).take i)))), some (.str (S (lastD [] ((zs x).take i)))), o7, none, none, none, none])
        ⟨rfl, _, rfl⟩ (fun _ _ _ _ _ => trivial) ?_ ?_
      · rintro i y σ H2 H3 hi ⟨rfl, o7, rfl⟩ ⟨rfl, c, hci, rfl⟩
        have hcx := str_at hci
        have ht := take_succ' hcx
        refine ⟨_, rfl, _, rfl, _, rfl, rfl, _, rfl, ?_⟩
        have stl : ∀ t : List Nat, t = (if [c] = lastD [] ((zs x).take i) ∧ c ∈ zs m then [] else [c]) → ∃ u, V.str (S t) = .str u ∧ (S (foldS (zs m) [] ((zs x).take i))).length + u.length ≤ sizeLine ∧ S (foldS (zs m) [] ((zs x).take i)) ++ u = S (foldS (zs m) [] ((zs x).take (i + 1))) := fun t et => by
          refine ⟨_, rfl, ?_, ?_⟩
          · rw [S_len, S_len]
            have h1 := foldS_len (zs m) ((zs x).take i) []
            rw [List.length_take] at h1
            have h2 : t.length ≤ 1 := by rw [et]; split <;> simp
            exact Nat.le_trans (show _ ≤ 101 by omega) (by decide)
          · rw [ht, foldS_snoc, ← et, S_app]
        have fin : ∀ t : List Nat, t = (if [c] = lastD [] ((zs x).take i) ∧ c ∈ zs m then [] else [c]) → ∃ i_1 j, V.str (S (foldS (zs m) [] ((zs x).take i))) = V.str i_1 ∧ V.str (S t) = V.str j ∧ i_1.length + j.length ≤ sizeLine ∧ (i_1 ++ j) = S (foldS (zs m) [] ((zs x).take (i + 1))) := fun t et => by
          obtain ⟨u, e1, e2, e3⟩ := stl t et
          exact ⟨_, u, rfl, e1, e2, e3⟩
        have hlast : lastD [] ((zs x).take (i + 1)) = [c] := by rw [ht, lastD_snoc]
        rw [show decide (V.str ⟨#[c]⟩ = V.str (S (lastD [] ((zs x).take i)))) = decide ([c] = lastD [] ((zs x).take i)) from strS_eq [c] _]
        by_cases e1 : [c] = lastD [] ((zs x).take i)
        · rw [decide_eq_true e1]
          refine iteT ⟨_, rfl, _, rfl, c, m, rfl, rfl, _, rfl, ?_⟩
          by_cases e2 : c ∈ zs m
          · rw [show decide (c ∈ m.cps.toList) = true from decide_eq_true e2]
            obtain ⟨a1, a2, b1, b2, b3, b4⟩ := fin [] (by rw [if_pos ⟨e1, e2⟩])
            refine iteT ⟨a1, a2, b1, b2, b3, ?_⟩
            rw [b4]
            exact ⟨_, rfl, rfl, _, by rw [hlast]; rfl⟩
          · rw [show decide (c ∈ m.cps.toList) = false from decide_eq_false e2]
            obtain ⟨a1, a2, b1, b2, b3, b4⟩ := fin [c] (by rw [if_neg fun h => e2 h.2])
            refine iteF ⟨_, rfl, a1, a2, b1, b2, b3, ?_⟩
            rw [b4]
            exact ⟨_, rfl, rfl, _, by rw [hlast]; rfl⟩
        · rw [decide_eq_false e1]
          obtain ⟨a1, a2, b1, b2, b3, b4⟩ := fin [c] (by rw [if_neg fun h => e1 h.1])
          refine iteF ⟨_, rfl, a1, a2, b1, b2, b3, ?_⟩
          rw [b4]
          exact ⟨_, rfl, rfl, _, by rw [hlast]; rfl⟩
      · rintro σ H2 ⟨rfl, o7, rfl⟩
        rw [show (zs x).take x.cps.size = zs x from List.take_of_length_le (by simp [zs])]
        exact kk _ _ ⟨rfl, _, _, rfl⟩
    rintro σ H' ⟨rfl, o6, o7, rfl⟩
    obtain ⟨lst1, lst2⟩ := l8_last z hz
    generalize hcl : (zs z).getLast?.getD 0 = cl at lst1 lst2
    refine ⟨_, rfl, z, rfl, fun D hD => ?_⟩
    refine lc_rel (walk_str (z := z)) (fun j v _ => ∃ c, (zs z)[j]? = some c ∧ v = .str (S (if c ∈ zs m then [] else [cl]))) (fun _ _ _ _ _ h => h) hD (l8_lt hz) (fun _ _ => trivial) ?_ ?_
    · rintro i v H4 H5 hi sm ⟨o, hd⟩ ⟨rfl, c, hc, rfl⟩ kk
      have hca := str_at hc
      refine ⟨rfl, ?_⟩
      unfold tYes
      refine iteT ⟨_, rfl, _, rfl, c, m, rfl, rfl, _, rfl, ?_⟩
      by_cases e : c ∈ zs m
      · exact iteD1 (decide_eq_true e) (kk _ _ (Same.refl _) ⟨c, hca, by rw [if_pos e]; rfl⟩)
      · exact iteD0 (decide_eq_false e) ⟨_, rfl, _, rfl, z, _, cl, rfl, rfl, l8_line hz, lst1, kk _ _ (Same.refl _) ⟨c, hca, by rw [if_neg e]; rfl⟩⟩
    intro H4 xs sm4 hxD hxn hv
    have exs := map_of (t := zs z) (f := fun c => V.str (S (if c ∈ zs m then [] else [cl]))) (by rw [hxn, zs_length]; rfl) hv
    subst exs
    refine ⟨D, _, rfl, .inl ⟨SqL.of hxD, fun l hl => ?_⟩⟩
    have s4 : Same H (upd H4 l (.tup ((zs z).map fun c => V.str (S (if c ∈ zs m then [] else [cl]))))) := (s1.trans sm4).trans (same_upd hl)
    have hL : (upd H4 l (.tup ((zs z).map fun c => V.str (S (if c ∈ zs m then [] else [cl]))))) l = some (.tup ((zs z).map fun c => V.str (S (if c ∈ zs m then [] else [cl])))) := upd_same
    generalize upd H4 l (.tup ((zs z).map fun c => V.str (S (if c ∈ zs m then [] else [cl])))) = H5 at s4 hL ⊢
    have vno : isValD z (.str x) = false → False := fun e => absurd (isVal_of hxz) (by rw [e]; exact Bool.false_ne_true)
    have lno : isLetD (.str z) = false → False := fun e => absurd (l8_let z hz) (by rw [e]; exact Bool.false_ne_true)
    have hx5 : small (.str x) := show x.length ≤ 100000 by omega
    refine ⟨_, rfl, _, .str z, rfl, .str z, l8_small0 hz, fun _ => ⟨z, rfl, hz, fun p1 H6 s6 hM1 => ?_⟩, fun e => (lno e).elim⟩
    obtain ⟨dx1, r1, hp1, _⟩ := hM1.at_
    refine ⟨p1, dx1, _, rfl, hp1, mfs_no _ _ (by decide +kernel) (by decide +kernel), _, rfl, p1, _, .str x, z, _, rfl, hM1, .str x, hx5, fun x' e _ H7 s7 => ?_, fun e => (vno e).elim⟩
    cases e
    refine ⟨_, rfl, rfl, _, rfl, iteD0 (ne_str (congrArg Prod.snd (plain_run (zs z) (zs x) hxz))) ?_⟩
    refine ⟨_, rfl, _, rfl, z, n, rfl, hz, hn, fun p2 H8 s8 hM2 => ?_⟩
    obtain ⟨dx2, r2, hp2, _⟩ := hM2.at_
    refine ⟨p2, dx2, _, rfl, hp2, mfs_no _ _ (by decide +kernel) (by decide +kernel), _, rfl, p2, _, .str x, z, _, rfl, hM2, .str x, hx5, fun x' e _ H9 s9 => ?_, fun e => (vno e).elim⟩
    cases e
    refine ⟨_, rfl, ?_⟩
    unfold tNoPart
    dsimp only
    refine ⟨_, rfl, _, rfl, x, rfl, xl, rfl, _, rfl, ?_⟩
    refine iteD0 ?_ ?_
    · rw [cutS_head]
      refine ne_strS ?_
      have := congrArg Prod.snd (cut_run (zs z) n (zs x) 0 (Nat.zero_le _) hxz)
      exact this
    have no1 : ∀ r, (mfs z r).lookup ("made" : Str) = none := fun r => mfs_no _ _ (by decide +kernel) (by decide +kernel)
    have no2 : ∀ r, (mfs z r).lookup ("state_after" : Str) = none := fun r => mfs_no _ _ (by decide +kernel) (by decide +kernel)
    refine ⟨_, rfl, _, rfl, z, m, rfl, hz, hm, hmz, fun p3 H10 s10 hM3 => ?_⟩
    obtain ⟨dx3, r3, hp3, _⟩ := hM3.at_
    refine ⟨p3, dx3, _, rfl, hp3, no1 _, _, rfl, p3, _, .str x, z, _, rfl, hM3, .str x, hx5, fun x' e _ H11 s11 => ?_, fun e => (vno e).elim⟩
    cases e
    refine ⟨_, rfl, _, rfl, _, rfl, x, rfl, xl, rfl, _, rfl, iteD0 ?_ ?_⟩
    · rw [cutS_tail, ← hd]
      exact ne_strS (strip_run (zs z) (zs m) (zs x) hxz)
    refine ⟨_, rfl, _, rfl, z, m, rfl, hz, hm, hmz, fun p4 H12 s12 hM4 => ?_⟩
    obtain ⟨dx4, r4, hp4, _⟩ := hM4.at_
    refine ⟨p4, dx4, _, rfl, hp4, no1 _, _, rfl, p4, _, .str x, z, _, rfl, hM4, .str x, hx5, fun x' e _ H13 s13 => ?_, fun e => (vno e).elim⟩
    cases e
    have sqr := sq_run (zs z) (zs m) (zs x) [] (.inl rfl) hxz
    refine ⟨_, rfl, rfl, _, rfl, iteD0 (ne_strS (congrArg Prod.snd sqr)) ?_⟩
    have s513 : Same H5 H13 := ((s6.trans s7).trans (s8.trans s9)).trans ((s10.trans s11).trans (s12.trans s13))
    generalize hos : (zs z).map (fun c => if c ∈ zs m then [] else [cl]) = os at *
    have hL : H5 l = some (.tup (os.map fun o => V.str (S o))) := by
      rw [hL, ← hos, List.map_map]
      rfl
    have osl : os.length = (zs z).length := by rw [← hos, List.length_map]
    have osk : ∀ o ∈ os, o.length ≤ 1 ∧ ∀ c ∈ o, c ∈ zs z := fun o ho => by
      rw [← hos] at ho
      obtain ⟨c, hc, rfl⟩ := List.mem_map.mp ho
      split
      · exact ⟨Nat.zero_le _, fun c h => nomatch h⟩
      · exact ⟨Nat.le_refl _, fun d h => by rw [List.mem_singleton.mp h]; exact lst2⟩
    refine ⟨_, rfl, _, rfl, z, .ref l, os, rfl, hz, Dp.tupNew (s513 _ _ hL) (dpStrs os), osl, osk, fun p5 H14 s14 hM5 => ?_⟩
    obtain ⟨dx5, r5, hp5, _⟩ := hM5.at_
    refine ⟨p5, dx5, _, rfl, hp5, no1 _, _, rfl, p5, _, .str x, z, _, rfl, hM5, .str x, hx5, fun x' e _ H15 s15 => ?_, fun e => (vno e).elim⟩
    cases e
    have mm := map_made osl (zs x) hxz
    refine ⟨⟨_, rfl⟩, _, rfl, x, rfl, fun D2 hD2 => ?_⟩
    have s515 := s513.trans (s14.trans s15)
    refine lc_rel (walk_str (z := x)) (fun j v _ => ∃ c, (zs x)[j]? = some c ∧ v = .str (S (os.getD (ix (zs z) c) []))) (fun _ _ _ _ _ h => h) hD2 (by show x.length < _; exact Nat.lt_of_le_of_lt hx (by decide)) (fun _ _ => trivial) ?_ ?_
    · rintro i v G4 G5 hi sm ⟨o, hd⟩ ⟨rfl, c, hc, rfl⟩ kk
      have hca := str_at hc
      have hcz := hxz c (List.mem_of_getElem? hca)
      refine ⟨rfl, ?_⟩
      unfold tYes
      refine iteT ⟨_, rfl, _, rfl, ⟨_, rfl⟩, _, rfl, z, S [c], ix (zs z) c, [], rfl, rfl, l8_index z hz c hcz, l, _, _, .str (S (os.getD (ix (zs z) c) [])), rfl, rfl, SqT.of (sm _ _ (s515 _ _ hL)), atI_nat ?_, kk _ _ (Same.refl _) ⟨c, hca, rfl⟩⟩
      have hi2 : ix (zs z) c < os.length := by rw [osl]; exact ix_lt hcz
      rw [List.getElem?_map, List.getElem?_eq_getElem hi2, List.getD_eq_getElem?_getD, List.getElem?_eq_getElem hi2]
      rfl
    intro H16 ys sm16 hyD hyn hyv
    have eys := map_of (t := zs x) (f := fun c => V.str (S (os.getD (ix (zs z) c) []))) (by rw [hyn, zs_length]; rfl) hyv
    subst eys
    refine ⟨S [], D2, ((zs x).map fun c => os.getD (ix (zs z) c) []).map S, rfl, rfl, .inl (.inl (.inl (by rw [hyD, List.map_map, List.map_map]; rfl))), ?_, ?_⟩
    · have e5 : ((((zs x).map fun c => os.getD (ix (zs z) c) []).map S).map (·.length)).sum = ((zs x).map fun c => os.getD (ix (zs z) c) []).flatten.length := by
        rw [List.length_flatten, List.map_map]
        rfl
      have e6 := runM_len (map_ok osl osk) (zs x) 0 (Nat.le_refl 1) hxz
      rw [mm, zs_length] at e6
      rw [e5]
      show _ + _ * 0 ≤ _
      exact Nat.le_trans (show _ ≤ 100 by simp only [Nat.mul_zero, Nat.add_zero]; exact Nat.le_trans e6 hx) (by decide)
    rw [join_flat]
    refine ⟨rfl, _, rfl, iteD0 (ne_strS (congrArg Prod.snd mm)) ?_⟩
    have s516 := s515.trans sm16
    refine ⟨_, rfl, _, .str z, rfl, .str z, l8_small0 hz, fun _ => ⟨z, rfl, hz, fun q1 G1 t1 N1 => ?_⟩, fun e => (lno e).elim⟩
    refine ⟨_, rfl, _, rfl, z, n, rfl, hz, hn, fun q2 G2 t2 N2 => ?_⟩
    refine ⟨_, rfl, _, rfl, z, m, rfl, hz, hm, hmz, fun q3 G3 t3 N3 => ?_⟩
    refine ⟨_, rfl, _, rfl, z, m, rfl, hz, hm, hmz, fun q4 G4 t4 N4 => ?_⟩
    refine ⟨by show 4 ≤ sizeLine; decide, fun p9 hp9 => ?_⟩
    have t5 := same_upd (o := .tup [V.ref q1, V.ref q2, V.ref q3, V.ref q4]) hp9
    have g9 : (upd G4 p9 (.tup [V.ref q1, V.ref q2, V.ref q3, V.ref q4])) p9 = some (.tup [V.ref q1, V.ref q2, V.ref q3, V.ref q4]) := upd_same
    generalize upd G4 p9 (.tup [V.ref q1, V.ref q2, V.ref q3, V.ref q4]) = G5 at t5 g9 ⊢
    have M4 := N4.same t5
    have M3 := N3.same (t4.trans t5)
    have M2 := N2.same (t3.trans (t4.trans t5))
    have M1 := N1.same (t2.trans (t3.trans (t4.trans t5)))
    have s5 : Same H G5 := s4.trans (s516.trans (t1.trans (t2.trans (t3.trans (t4.trans t5)))))
    have lall : ∀ (j : Nat) (v : V), [V.ref q1, V.ref q2, V.ref q3, V.ref q4][j]? = some v → ∃ (p : Addr) (R : Rows), v = .ref p ∧ IsM K A.C G5 p z R ∧ [1, n + 1, 2, z.length + 1][j]? = some R.length := by
      intro j v hj
      rcases j with _ | _ | _ | _ | j
      · cases hj; exact ⟨q1, _, rfl, M1, rfl⟩
      · cases hj; exact ⟨q2, _, rfl, M2, by rw [cut_len]; rfl⟩
      · cases hj; exact ⟨q3, _, rfl, M3, rfl⟩
      · cases hj; exact ⟨q4, _, rfl, M4, by rw [squeeze_len, zs_length]; rfl⟩
      · cases hj
    refine ⟨_, rfl, p9, rfl, ⟨_, SqT.of g9⟩, fun D3 hD3 => ?_⟩
    refine lc_rel (walk_tup (xs := [V.ref q1, V.ref q2, V.ref q3, V.ref q4])) (fun j v _ => ∃ k : Nat, [1, n + 1, 2, z.length + 1][j]? = some k ∧ v = .int ((k : Nat) : Int)) (fun _ _ _ _ _ h => h) hD3 (by show 4 < sizeLine; decide) (fun H' s' => SqT.of (s' _ _ g9)) ?_ ?_
    · rintro i v G6 G7 hi sm ⟨o, hd⟩ ⟨rfl, hv⟩ kk
      obtain ⟨pp, R, rfl, hM, hk⟩ := lall i v hv
      have hM' := hM.same sm
      obtain ⟨dxp, rp, hpp, _⟩ := hM'.at_
      refine ⟨rfl, ?_⟩
      unfold tYes
      have hk6 : R.length < 2 ^ 63 := Nat.lt_of_le_of_lt hM.six (by decide)
      exact iteT ⟨_, rfl, pp, dxp, _, rfl, hpp, pp, z, R, rfl, hM', ⟨_, rfl, by omega, by omega, kk _ _ (Same.refl _) ⟨_, hk, rfl⟩⟩⟩
    intro G6 ks sm6 hkD hkn hkv
    have eks := map_of (t := [1, n + 1, 2, z.length + 1]) (f := fun k : Nat => V.int (k : Int)) (by rw [hkn]; rfl) hkv
    subst eks
    have ens : ([1, n + 1, 2, z.length + 1].map fun k : Nat => V.int (k : Int)) = ([1, (n : Int) + 1, 2, (z.length : Int) + 1].map V.int) := rfl
    rw [ens] at hkD
    refine ⟨_, rfl, _, rfl, _, _, rfl, rfl, _, rfl, z, rfl, l8_line hz, _, _, rfl, rfl, by show 4 ≤ sizeLine; decide, fun p10 hp10 => ?_⟩
    have t7 := same_upd (o := .lst [V.int 1, V.int ((n : Int) + 1), V.int 2, V.int ((z.length : Nat) + 1)]) hp10
    refine ⟨.list ([1, (n : Int) + 1, 2, (z.length : Int) + 1].map PyData.int), .list ([1, (n : Int) + 1, 2, (z.length : Int) + 1].map PyData.int), .lst (SqL.of (t7 _ _ hkD)) (dpInts _), .lst (SqL.of upd_same) (dpInts [1, (n : Int) + 1, 2, (z.length : Int) + 1]), ints_shaped _, ints_shaped _, _, rfl, iteD0 ?_ ?_⟩
    · rw [show PyData.eqv (.list ([1, (n : Int) + 1, 2, (z.length : Int) + 1].map PyData.int)) (.list ([1, (n : Int) + 1, 2, (z.length : Int) + 1].map PyData.int)) = true by simp only [PyData.eqv]; rw [ints_eq]; simp]
      rfl
    have s6' : Same H (upd G6 p10 (.lst [V.int 1, V.int ((n : Int) + 1), V.int 2, V.int ((z.length : Nat) + 1)])) := s5.trans (sm6.trans t7)
    generalize upd G6 p10 (.lst [V.int 1, V.int ((n : Int) + 1), V.int 2, V.int ((z.length : Nat) + 1)]) = G7 at s6' ⊢
    refine ⟨_, rfl, _, rfl, z, n, rfl, hz, hn, fun p11 G8 t8 N11 => ?_⟩
    obtain ⟨dx11, r11, hp11, _⟩ := N11.at_
    refine ⟨p11, dx11, _, rfl, hp11, no2 _, _, rfl, p11, _, .str x, z, _, rfl, N11, .str x, hx5, fun x' e _ G9 t9 => ?_, fun e => (vno e).elim⟩
    cases e
    refine ⟨_, rfl, _, rfl, x, rfl, xl, _, _, rfl, rfl, _, rfl, iteD0 ?_ ?_⟩
    · rw [dec_int, show (runM (zs z) (cutR (zs z) n) 0 (zs x)).1 = _ from congrArg Prod.fst (cut_run (zs z) n (zs x) 0 (Nat.zero_le _) hxz), zs_length]
      rw [Bool.not_eq_false', decide_eq_true_eq]
      split <;> omega
    refine ⟨_, rfl, _, rfl, z, m, rfl, hz, hm, hmz, fun p12 G10 t10 N12 => ?_⟩
    obtain ⟨dx12, r12, hp12, _⟩ := N12.at_
    refine ⟨p12, dx12, _, rfl, hp12, no2 _, _, rfl, p12, _, .str x, z, _, rfl, N12, .str x, hx5, fun x' e _ G11 t11 => ?_, fun e => (vno e).elim⟩
    cases e
    have s7' : Same H G11 := s6'.trans ((t8.trans t9).trans (t10.trans t11))
    have sq1 := congrArg Prod.fst sqr
    refine ⟨_, rfl, rfl, _, rfl, ?_⟩
    have fin : ∀ k : Int, ((runM (zs z) (squeezeR (zs z) (zs m)) 0 (zs x)).1 : Int) = k → rEq (V.int ((runM (zs z) (squeezeR (zs z) (zs m)) 0 (zs x)).1 : Nat)) (V.int k) G11 Q := fun k e => ⟨rfl, by rw [dec_int, decide_eq_true e]; exact q _ s7'⟩
    rcases List.eq_nil_or_concat (zs x) with e | ⟨u, c, e⟩
    · have ex : x = Str.ofString "" := by rw [← S_zs x, e]; rfl
      refine iteD0 (by rw [ex]; simp) (fin 0 ?_)
      rw [show (runM (zs z) (squeezeR (zs z) (zs m)) 0 (zs x)).1 = _ from sq1, e]
      rfl
    · rw [List.concat_eq_append] at e
      have hcz : c ∈ zs z := hxz c (by rw [e]; simp)
      have hne : x ≠ Str.ofString "" := fun h => by
        have := congrArg zs h
        rw [e] at this
        exact absurd (congrArg List.length this) (by rw [show zs (Str.ofString "") = [] from rfl]; simp)
      refine iteD1 (by simp [hne]) ⟨_, rfl, ⟨_, rfl⟩, _, rfl, _, rfl, x, _, c, rfl, rfl, xl, ?_, z, S [c], ix (zs z) c, [], rfl, rfl, l8_index z hz c hcz, _, _, rfl, rfl, fin _ ?_⟩
      · show atI (zs x) (-1) = some c
        rw [e]
        exact atI_last u c
      · rw [show (runM (zs z) (squeezeR (zs z) (zs m)) 0 (zs x)).1 = _ from sq1, e]
        simp
end
end K1
set_option Elab.async false
set_option linter.all false
set_option maxRecDepth 100000
set_option maxHeartbeats 8000000
namespace K1
open PySem PySem.Spec PyProof.Rows L2 FX LamX
/-! ### heaps of which the tables of code objects may grow -/
theorem ExtN.same {H H' : Hp} (s : Same H H') : ExtN H H' := fun b o e _ => s b o e
theorem ExtN.seqL {K : PySem.W.Frag} {H H' : Hp} {a : Addr} {xs : List V} (e : ExtN H H') (h : SqL K H a xs) : SqL K H' a xs :=
  h.elim (fun h => .inl (h.elim (fun h => .inl (e _ _ h fun ps z => by cases z)) fun ⟨o, h⟩ => .inr ⟨o, e _ _ h fun ps z => by cases z⟩)) fun h => .inr h
theorem ExtN.seqT {K : PySem.W.Frag} {H H' : Hp} {a : Addr} {xs : List V} (e : ExtN H H') (h : SqT K H a xs) : SqT K H' a xs :=
  h.elim (fun h => .inl (h.elim (fun h => .inl (e _ _ h fun ps z => by cases z)) fun ⟨o, h⟩ => .inr ⟨o, e _ _ h fun ps z => by cases z⟩)) fun h => .inr h
mutual
theorem Dp.ext {K : PySem.W.Frag} {H H' : Hp} (e : ExtN H H') : ∀ {v : V} {d : PyData}, Dp K H v d → Dp K H' v d
  | _, _, .non => .non
  | _, _, .bl b => .bl b
  | _, _, .int i => .int i
  | _, _, .str x => .str x
  | _, _, .lst hs ha => .lst (ExtN.seqL e hs) (DpAll.ext e ha)
  | _, _, .tup hs ha => .tup (ExtN.seqT e hs) (DpAll.ext e ha)
theorem DpAll.ext {K : PySem.W.Frag} {H H' : Hp} (e : ExtN H H') : ∀ {vs : List V} {ds : List PyData}, DpAll K H vs ds → DpAll K H' vs ds
  | _, _, .nil => .nil
  | _, _, .cons h t => .cons (Dp.ext e h) (DpAll.ext e t)
end
theorem IsM.ext {K : PySem.W.Frag} {C : Addr} {H H' : Hp} {p : Addr} {z : Str} {R : Rows} (m : IsM K C H p z R) (e : ExtN H H') : IsM K C H' p z R := by
  obtain ⟨⟨dx, r, h1, h2⟩, h3, h4, h5⟩ := m
  exact ⟨⟨dx, r, e _ _ h1 (fun ps z => by cases z), Dp.ext e h2⟩, h3, h4, h5⟩
theorem Scr.ext {K : PySem.W.Frag} {H H' : Hp} {a : Addr} {ns : List Int} (h : Scr K H a ns) (e : ExtN H H') : Scr K H' a ns := ⟨ExtN.seqL e h.1, h.2⟩
section
variable {P : Program} {w : World} {K : PySem.W.Frag} {mg : Str → Option Value} {base : Heap} {A : Ad}
/-- a pair of a word and a value is made and handed back -/
def Pair (Q : VK) (x : Str) (v : V) (H : Hp) : Prop := [V.str x, v].length ≤ sizeLine ∧ ∀ t, H t = none → Q (.ref t) (upd H t (.tup [.str x, v]))
/-- what _law_raised makes of what it calls -/
def TTraised (A : Ad) : (XK → Hp → VK → Prop) → Hp → VK → Prop := fun tl H Q =>
  tl (fun cls d H' => (cls = .ref A.X_BadMachine ∧ ∃ dd v, d = some dd ∧ H' dd = some (.xd [("row", v)]) ∧ Pair Q "machine" v H') ∨ (cls = .ref A.X_BadLetters ∧ Pair Q "letters" .non H') ∨ (cls = .ref A.X_BadValue ∧ Pair Q "value" .non H'))
    H (fun _ H' => Pair Q "fine" .non H')
abbrev xRz (X : Cx) (A : Ad) (cdg : Value) (s : Shared) (H : Hp) : Cx := cxOf C8.CX0 X.prog X.w X.K X.mg X.base ["call", "error"] "_law_raised" (defScope s_law_raised) A.a_law_raised cdg X.A X.stack s H C8.E0
theorem raised_gives (T : Txt P K mg A) {X : Cx} (eK : X.K = K) (eM : X.mg = mg) {q : Str} {cdg : Value} :
    GivesTo X ["call", "error"] "_law_raised" (defScope s_law_raised) A.a_law_raised cdg (defBody s_law_raised) "call" q (TTraised A) := by
  intro f c' s H Q tl act hc h
  have gm : (xRz X A cdg s H).nox.mg = mg := eM
  have gk : (xRz X A cdg s H).nox.K = K := eK
  refine ⟨_, pss_cons (ps_try_mix (X := (xRz X A cdg s H).nox) (l := [(.ref A.X_BadMachine, some 1, _), (.ref A.X_BadLetters, none, _), (.ref A.X_BadValue, none, _)])
      (tb := fun W D σ H => ∃ Ech : XK, (∀ cls d σ' H', Ech cls d H' → W cls d σ' H') ∧ σ[0]? = some (some (.ref f)) ∧ H c' = some (CodeO c' q) ∧ tl Ech H fun _ H' => D.nx σ H')
      rfl rfl L2.takes0 (fun W pn xe tk _ => ?_)
      (MixOk.named (i := 1) ⟨rfl, by decide, .inl (by rw [gm]; exact T.gX_BadMachine)⟩ (show [Str.ofString "call", Str.ofString "error"].Nodup by decide +kernel) rfl rfl (fun a oe cls d pn hz hf => pss_one (ps_ret (pe_tup (pa_cons pe_str (pa_cons (pe_xf (C := A.X_BadMachine) (by rw [gk]; exact T.xB) (by rw [gk]; exact T.rB) hz hf (pv 1)) pa_nil)))))
        (MixOk.bare ⟨rfl, by decide, .inl (by rw [gm]; exact T.gX_BadLetters)⟩ (fun a oe cls d pn hz hf => pss_one (ps_ret (pe_tup (pa_cons pe_str (pa_cons pe_non pa_nil)))))
          (MixOk.bare ⟨rfl, by decide, .inl (by rw [gm]; exact T.gX_BadValue)⟩ (fun a oe cls d pn hz hf => pss_one (ps_ret (pe_tup (pa_cons pe_str (pa_cons pe_non pa_nil))))) MixOk.nil))))
    (pss_one (ps_ret (pe_tup (pa_cons pe_str (pa_cons pe_non pa_nil))))), ?_⟩
  · refine ⟨fun pins s' σ H' D I h' => ?_⟩
    obtain ⟨Ech, hW, h1, h2, h3⟩ := h'
    exact (pss_one (ps_expr (act W pn xe Ech _ _ tk hW))).run pins s' σ H' D I ⟨h1, h2, h3⟩
  · refine ⟨_, ?_, rfl, hc, (show _ from h)⟩
    rintro cls d σ' H' (⟨rfl, dd, v, rfl, hd, hq⟩ | ⟨rfl, hq⟩ | ⟨rfl, hq⟩)
    · refine ⟨true, by rw [gk]; exact T.eMM, fun _ a na hl => ⟨_, List.getElem?_set_self hl, rfl, rfl, dd, _, v, rfl, hd, rfl, hq⟩, fun e => by cases e⟩
    · refine ⟨false, by rw [gk]; exact T.eLM, fun e => (by cases e), fun _ => ⟨true, by rw [gk]; exact T.eLL, fun _ a na => hq, fun e => by cases e⟩⟩
    · refine ⟨false, by rw [gk]; exact T.eVM, fun e => (by cases e), fun _ => ⟨false, by rw [gk]; exact T.eVL, fun e => (by cases e), fun _ => ⟨true, by rw [gk]; exact T.eVV, fun _ a na => hq, fun e => by cases e⟩⟩⟩
theorem pe_raised {X : Cx} (T : Txt X.prog X.K X.mg A) {c Pt : Addr} {k : Nat} {params : Arguments} {body : Expr} {scope : Scope} {t : XK → TE} {p lpos pos : Pos} (hg : Gl X "_law_raised") (TB : TabB X.base X.mg c Pt) (hcode : X.env.code = .ref c) (hr : Room (k + 2) X.A)
    (L : LamS X.env.scope scope) (hdef : defaultsOf params X.env = ([], [])) (hbind : ∀ (q : Str) (cl : List (Str × Addr)) (pm cv ctv : Value), bindArgs (PySem.W.kla_fn "<lambda>" q params body scope cl pm cv ctv) ⟨[], []⟩ = pure [])
    (hbody : ∀ (A : Around) (outer : List Env) (s : Shared) (H : Hp) (E : XK) (f c' : Addr), Room k (A.deeper (lamEnv X scope s.heap.objs.size f c')) → PE (lamCx X A outer s H E scope f c') body (t E)) :
    PE X (.Call (.Name "_law_raised" p) [.Lambda params body scope lpos] [] pos) (tLam [(Pt, X.env.qual ++ "<lambda>")] (TTraised A) t) := by
  obtain ⟨oc, od, kV, doc, pm, an, cdv, ct, osl, e, lk, hcd⟩ := T.f_law_raised.F.ex
  have hb := T.f_law_raised.b
  rw [e] at hb lk
  refine pe_lamcall (Ng := ["call", "error"]) hg T.f_law_raised.g T.f_law_raised.F.kp lk hcd hb sc_law_raised rfl (.inl rfl) (raised_gives T rfl rfl) TB hcode List.mem_cons_self (fun p hp _ => by rw [List.mem_singleton.mp hp]) hr L hdef hbind hbody
theorem passLam {X : Cx} {A : Around} {outer : List Env} {s : Shared} {H : Hp} {E : XK} {scope : Scope} {f c' : Addr} : Passes (L2.CX X.prog X.w) (lamCx X A outer s H E scope f c') E :=
  passes_call (X := lamCx X A outer s H E scope f c') (takes_of rfl rfl rfl rfl) fun _ _ _ _ h => h
/-- as Fun.ok, of a def whose code object is known -/
theorem okC {x qual : Str} {st : Stmt} {f : Addr} {fd : FuncData} {N ps : List Str} {k : Nat} {sp : Sp} (F : Fun K x qual st f fd) (S : FnScope N ps (defScope st)) (len : ∀ vs H Q E, sp vs H Q E → vs.length = ps.length)
    (hb : ∀ (Ar : Around) (outer : List Env) (s : Shared) (H : Hp) (vs : List V) (Q : VK) (E : XK), Room k (Ar.deeper (envOfC qual (defScope st) s.heap.objs.size f fd.code)) → sp vs H Q E →
      ∃ t, PSs (cxOf CX0 P w K mg base N qual (defScope st) f fd.code Ar outer s H E).nox (defBody st) t ∧ t { nx := fun _ H' => Q .non H', rt := Q } (L2.start N vs) H) : FnOk P w K mg base CX0 (k + 1) f fd ps sp := by
  obtain ⟨oc, od, kV, doc, pm, an, cdv, ct, osl, rfl, lk, hcd⟩ := F.ex
  refine fn_of lk hcd S len fun Ar outer s H vs Q E hr hsp => ?_
  obtain ⟨t, h, q⟩ := hb Ar outer s H vs Q E hr hsp
  exact ⟨t, h.nox, q⟩
end
end K1
set_option Elab.async false
set_option linter.all false
set_option maxRecDepth 100000
set_option maxHeartbeats 400000
namespace K1
open PySem PySem.Spec PyProof.Rows L2 FX LamX
section
variable {P : Program} {w : World} {K : PySem.W.Frag} {mg : Str → Option Value} {base : Heap} {A : Ad}
abbrev NL : List Str := ["script", "letters", "rows", "value", "some", "machine", "late", "wrong", "thing"]
abbrev XL (P : Program) (w : World) (K : PySem.W.Frag) (mg : Str → Option Value) (base : Heap) (A : Ad) (Ar : Around) (outer : List Env) (s : Shared) (H : Hp) (E : XK) : Cx := (cxOf CX0 P w K mg base NL "law" (defScope s_law) A.a_law A.d_law.code Ar outer s H E).nox
abbrev argL : Arguments := { posonlyargs := [], args := [], vararg := none, kwonlyargs := [], kw_defaults := [], kwarg := none, defaults := [] }
abbrev scL (ns : List (Str × NameKind)) : Scope := { kind := .function, names := ns, isGenerator := false, isCoroutine := false, more := [] }
abbrev qL (A : Ad) : List (Addr × Str) := [(A.tL, "law.<locals>.<lambda>")]
variable {Ar : Around} {outer : List Env} {s : Shared} {H : Hp} {E : XK}
theorem raised_1 (T : Txt P K mg A) (TB : TabB base mg A.cL A.tL) (hr : Room 13 (Ar.deeper (envOfC "law" (defScope s_law) s.heap.objs.size A.a_law A.d_law.code))) {p1 p2 p3 p4 p5 p6 p7 : Pos} :
    PE (XL P w K mg base A Ar outer s H E) (.Call (.Name "_law_raised" p1) [.Lambda argL (.Call (.Name "Machine" p2) [.Name "letters" p3, .Name "late" p4] [] p5) (scL [("late", .free), ("letters", .free), ("Machine", .globalImplicit)]) p6] [] p7)
      (tLam [(A.tL, (XL P w K mg base A Ar outer s H E).env.qual ++ "<lambda>")] (TTraised A) (fun E => tMake A.C (sp_init K A) [] E (tCons (tVar 1) (tCons (tVar 6) tNil)))) := by
  refine pe_raised (X := XL P w K mg base A Ar outer s H E) (k := 8) (t := fun E => tMake A.C (sp_init K A) [] E (tCons (tVar 1) (tCons (tVar 6) tNil))) T rfl TB T.codeL (hr.mono (by decide)) (lamS_by (show lamSB (defScope s_law) (scL [("late", .free), ("letters", .free), ("Machine", .globalImplicit)]) = true by decide +kernel)) rfl (fun _ _ _ _ _ => rfl) (fun A' o' s' H' E' f' c' hr' => ?_)
  exact pe_make T.mkC (ok_Machine_init T) (hr'.mono (by decide)) rfl T.g_Machine T.f_Machine_init.b .nil (passLam (X := XL P w K mg base A Ar outer s H E)) (pa_cons (pv 1) (pa_cons (pv 6) pa_nil))
theorem raised_2 (T : Txt P K mg A) (TB : TabB base mg A.cL A.tL) (hr : Room 13 (Ar.deeper (envOfC "law" (defScope s_law) s.heap.objs.size A.a_law A.d_law.code))) {p1 p2 p3 p4 p5 p6 p7 : Pos} :
    PE (XL P w K mg base A Ar outer s H E) (.Call (.Name "_law_raised" p1) [.Lambda argL (.Call (.Name "Machine" p2) [.Name "letters" p3, .Name "thing" p4] [] p5) (scL [("letters", .free), ("thing", .free), ("Machine", .globalImplicit)]) p6] [] p7)
      (tLam [(A.tL, (XL P w K mg base A Ar outer s H E).env.qual ++ "<lambda>")] (TTraised A) (fun E => tMake A.C (sp_init K A) [] E (tCons (tVar 1) (tCons (tVar 8) tNil)))) := by
  refine pe_raised (X := XL P w K mg base A Ar outer s H E) (k := 8) (t := fun E => tMake A.C (sp_init K A) [] E (tCons (tVar 1) (tCons (tVar 8) tNil))) T rfl TB T.codeL (hr.mono (by decide)) (lamS_by (show lamSB (defScope s_law) (scL [("letters", .free), ("thing", .free), ("Machine", .globalImplicit)]) = true by decide +kernel)) rfl (fun _ _ _ _ _ => rfl) (fun A' o' s' H' E' f' c' hr' => ?_)
  exact pe_make T.mkC (ok_Machine_init T) (hr'.mono (by decide)) rfl T.g_Machine T.f_Machine_init.b .nil (passLam (X := XL P w K mg base A Ar outer s H E)) (pa_cons (pv 1) (pa_cons (pv 8) pa_nil))
theorem raised_3 (T : Txt P K mg A) (TB : TabB base mg A.cL A.tL) (hr : Room 13 (Ar.deeper (envOfC "law" (defScope s_law) s.heap.objs.size A.a_law A.d_law.code))) {p1 p2 p3 p4 p5 p6 p7 : Pos} :
    PE (XL P w K mg base A Ar outer s H E) (.Call (.Name "_law_raised" p1) [.Lambda argL (.Call (.Name "Machine" p2) [.Name "thing" p3, .Name "rows" p4] [] p5) (scL [("rows", .free), ("thing", .free), ("Machine", .globalImplicit)]) p6] [] p7)
      (tLam [(A.tL, (XL P w K mg base A Ar outer s H E).env.qual ++ "<lambda>")] (TTraised A) (fun E => tMake A.C (sp_init K A) [] E (tCons (tVar 8) (tCons (tVar 2) tNil)))) := by
  refine pe_raised (X := XL P w K mg base A Ar outer s H E) (k := 8) (t := fun E => tMake A.C (sp_init K A) [] E (tCons (tVar 8) (tCons (tVar 2) tNil))) T rfl TB T.codeL (hr.mono (by decide)) (lamS_by (show lamSB (defScope s_law) (scL [("rows", .free), ("thing", .free), ("Machine", .globalImplicit)]) = true by decide +kernel)) rfl (fun _ _ _ _ _ => rfl) (fun A' o' s' H' E' f' c' hr' => ?_)
  exact pe_make T.mkC (ok_Machine_init T) (hr'.mono (by decide)) rfl T.g_Machine T.f_Machine_init.b .nil (passLam (X := XL P w K mg base A Ar outer s H E)) (pa_cons (pv 8) (pa_cons (pv 2) pa_nil))
theorem raised_4 (T : Txt P K mg A) (TB : TabB base mg A.cL A.tL) (hr : Room 13 (Ar.deeper (envOfC "law" (defScope s_law) s.heap.objs.size A.a_law A.d_law.code))) {p1 p2 p3 p5 p6 p7 : Pos} :
    PE (XL P w K mg base A Ar outer s H E) (.Call (.Name "_law_raised" p1) [.Lambda argL (.Call (.Name "plain" p2) [.Name "thing" p3] [] p5) (scL [("thing", .free), ("plain", .globalImplicit)]) p6] [] p7)
      (tLam [(A.tL, (XL P w K mg base A Ar outer s H E).env.qual ++ "<lambda>")] (TTraised A) (fun E => tCall (sp_plain K A) [] E (tCons (tVar 8) tNil))) := by
  refine pe_raised (X := XL P w K mg base A Ar outer s H E) (k := 8) (t := fun E => tCall (sp_plain K A) [] E (tCons (tVar 8) tNil)) T rfl TB T.codeL (hr.mono (by decide)) (lamS_by (show lamSB (defScope s_law) (scL [("thing", .free), ("plain", .globalImplicit)]) = true by decide +kernel)) rfl (fun _ _ _ _ _ => rfl) (fun A' o' s' H' E' f' c' hr' => ?_)
  exact pe_call (ok_plain T) (hr'.mono (by decide)) rfl T.f_plain.g T.f_plain.F.kp T.f_plain.b .nil (passLam (X := XL P w K mg base A Ar outer s H E)) (pa_cons (pv 8) pa_nil)
theorem raised_5 (T : Txt P K mg A) (TB : TabB base mg A.cL A.tL) (hr : Room 13 (Ar.deeper (envOfC "law" (defScope s_law) s.heap.objs.size A.a_law A.d_law.code))) {p1 p4 p6 p7 : Pos} :
    PE (XL P w K mg base A Ar outer s H E) (.Call (.Name "_law_raised" p1) [.Lambda argL (.Call (.Attribute (.Name "machine" ⟨240, 31, 240, 38⟩) "made" ⟨240, 31, 240, 43⟩) [.Name "thing" p4] [] ⟨240, 31, 240, 50⟩) (scL [("machine", .free), ("thing", .free)]) p6] [] p7)
      (tLam [(A.tL, (XL P w K mg base A Ar outer s H E).env.qual ++ "<lambda>")] (TTraised A) (fun E => tMeth A.C "made" (sp_made K A) [] E (tVar 5) (tCons (tVar 8) tNil))) := by
  refine pe_raised (X := XL P w K mg base A Ar outer s H E) (k := 8) (t := fun E => tMeth A.C "made" (sp_made K A) [] E (tVar 5) (tCons (tVar 8) tNil)) T rfl TB T.codeL (hr.mono (by decide)) (lamS_by (show lamSB (defScope s_law) (scL [("machine", .free), ("thing", .free)]) = true by decide +kernel)) rfl (fun _ _ _ _ _ => rfl) (fun A' o' s' H' E' f' c' hr' => ?_)
  exact pe_meth (pv 5) T.cl T.m_made (ok_Machine_made T) (hr'.mono (by decide)) T.f_Machine_made.b .nil (passLam (X := XL P w K mg base A Ar outer s H E)) (pa_cons (pv 8) pa_nil)
theorem raised_6 (T : Txt P K mg A) (TB : TabB base mg A.cL A.tL) (hr : Room 13 (Ar.deeper (envOfC "law" (defScope s_law) s.heap.objs.size A.a_law A.d_law.code))) {p1 p4 p6 p7 : Pos} :
    PE (XL P w K mg base A Ar outer s H E) (.Call (.Name "_law_raised" p1) [.Lambda argL (.Call (.Attribute (.Name "machine" ⟨242, 31, 242, 38⟩) "state_after" ⟨242, 31, 242, 50⟩) [.Name "thing" p4] [] ⟨242, 31, 242, 57⟩) (scL [("machine", .free), ("thing", .free)]) p6] [] p7)
      (tLam [(A.tL, (XL P w K mg base A Ar outer s H E).env.qual ++ "<lambda>")] (TTraised A) (fun E => tMeth A.C "state_after" (sp_state_after K A) [] E (tVar 5) (tCons (tVar 8) tNil))) := by
  refine pe_raised (X := XL P w K mg base A Ar outer s H E) (k := 8) (t := fun E => tMeth A.C "state_after" (sp_state_after K A) [] E (tVar 5) (tCons (tVar 8) tNil)) T rfl TB T.codeL (hr.mono (by decide)) (lamS_by (show lamSB (defScope s_law) (scL [("machine", .free), ("thing", .free)]) = true by decide +kernel)) rfl (fun _ _ _ _ _ => rfl) (fun A' o' s' H' E' f' c' hr' => ?_)
  exact pe_meth (pv 5) T.cl T.m_state_after (ok_Machine_state_after T) (hr'.mono (by decide)) T.f_Machine_state_after.b .nil (passLam (X := XL P w K mg base A Ar outer s H E)) (pa_cons (pv 8) pa_nil)
end
end K1
set_option Elab.async false
set_option linter.all false
set_option maxRecDepth 100000
set_option maxHeartbeats 8000000
namespace K1
open PySem PySem.Spec PyProof.Rows L2 FX LamX
section
variable {P : Program} {w : World} {K : PySem.W.Frag} {mg : Str → Option Value} {base : Heap} {A : Ad}
abbrev EX (A : Ad) (Q : VK) : XK := fun cls d H' => (cls = .ref A.X_BadMachine ∧ ∃ dd v, d = some dd ∧ H' dd = some (.xd [("row", v)]) ∧ Pair Q "machine" v H') ∨ (cls = .ref A.X_BadLetters ∧ Pair Q "letters" .non H') ∨ (cls = .ref A.X_BadValue ∧ Pair Q "value" .non H')
theorem Tabs.same {T : List (Addr × Str)} {H H' : Hp} (t : LamX.Tabs T H) (s : Same H H') : LamX.Tabs T H' := LamX.Tabs.ext t fun b o e => s b o e
theorem neq_pair {H : Hp} {x : Str} {v : V} {d : PyData} {σ : L2.St} {Q : VK} (hd : ∀ H', Dp K H' v d) (hs : SeqAt.shaped (.tuple [.str x, d]) = true) (he : PyData.eqv (.tuple [.str x, d]) (.tuple [.str x, d]) = true) (q : ∀ H', Same H H' → Q (.bl false) H') :
    Pair (fun y H1 => (tTup (tCons (tC (.str x)) (tCons (tC v) tNil))) σ H1 fun y2 H2 => rNeD K y y2 H2 Q) x v H :=
  ⟨by show 2 ≤ sizeLine; decide, fun t ht => ⟨by show 2 ≤ sizeLine; decide, fun t2 ht2 => ⟨.tuple [.str x, d], .tuple [.str x, d], Dp.same (same_upd ht2) (Dp.tupNew upd_same (.cons (.str _) (.cons (hd _) .nil))), Dp.tupNew upd_same (.cons (.str _) (.cons (hd _) .nil)), hs, hs, by
    rw [he]
    exact q _ ((same_upd ht).trans (same_upd ht2))⟩⟩⟩
theorem pair_shaped (x : Str) (d : PyData) (h : d = .none ∨ ∃ i : Int, d = .int i) (hx : (PyData.str x).canLay0 = true) : SeqAt.shaped (.tuple [.str x, d]) = true ∧ PyData.eqv (.tuple [.str x, d]) (.tuple [.str x, d]) = true := by
  have hl : (PyData.tuple [.str x, d]).canLay0 = true := by
    rcases h with rfl | ⟨i, rfl⟩
    · simp [PyData.canLay0, PyData.canLayAll0] at hx ⊢; exact hx
    · simp [PyData.canLay0, PyData.canLayAll0] at hx ⊢; exact hx
  refine ⟨shaped_of hl ?_, SeqAt.eqv_refl _ hl⟩
  rcases h with rfl | ⟨i, rfl⟩ <;> simp [PyData.depth, PyData.depthAll]
section
variable {σ : L2.St} {H : Hp} {Q : VK} {z : Str} {v : V} {d : PyData} {q : Str}
/-- Machine(z, v) -/
theorem go_rows {j : Nat} (hz : z ∈ L8) (h1 : σ[1]? = some (some (.str z))) (hj : σ[j]? = some (some v)) (hT : LamX.Tabs [(A.tL, q)] H) (hd : Dp K H v d) (hs : smallRows d)
    (k : ∀ H', ExtN H H' → LamX.Tabs [(A.tL, q)] H' → (rowsV z d = none → Pair Q "fine" .non H') ∧ ∀ y, rowsV z d = some y → Pair Q "machine" y H') :
    tLam [(A.tL, q)] (TTraised A) (fun E => tMake A.C (sp_init K A) [] E (tCons (tVar 1) (tCons (tVar j) tNil))) σ H Q := by
  refine ⟨hT, fun H1 e1 T1 => ⟨_, h1, _, hj, ?_⟩⟩
  refine mk_G (A := A) (Q := fun _ H' => Pair Q "fine" .non H') (E := EX A Q) (.str z) (l8_small0 hz) (Dp.ext e1 hd) hs (fun z' e h1 h2 x dx H2 nx s2 hx => ?_) (fun h => absurd (l8_let z hz) (by rw [h]; exact Bool.false_ne_true)) (fun z' y e h1 h2 dd H2 s2 h => ?_)
  · cases e
    exact (k H2 (e1.trans (ExtN.same s2)) (Tabs.same T1 s2)).1 h2
  · cases e
    exact .inl ⟨rfl, dd, y, rfl, h, (k H2 (e1.trans (ExtN.same s2)) (Tabs.same T1 s2)).2 y h2⟩
/-- Machine(v, r): v no letters -/
theorem go_first {i j : Nat} {r : V} {d2 : PyData} (hi : σ[i]? = some (some v)) (hj : σ[j]? = some (some r)) (hT : LamX.Tabs [(A.tL, q)] H) (hd : Dp K H v d) (hs : small0 d) (hn : isLetD d = false) (hd2 : Dp K H r d2) (hs2 : smallRows d2)
    (k : ∀ H', ExtN H H' → LamX.Tabs [(A.tL, q)] H' → Pair Q "letters" .non H') :
    tLam [(A.tL, q)] (TTraised A) (fun E => tMake A.C (sp_init K A) [] E (tCons (tVar i) (tCons (tVar j) tNil))) σ H Q := by
  refine ⟨hT, fun H1 e1 T1 => ⟨_, hi, _, hj, ?_⟩⟩
  have no : ∀ z', v = .str z' → isLetD (.str z') = true → False := fun z' e h => by
    subst e
    cases hd
    rw [hn] at h
    cases h
  exact mk_G (A := A) (Q := fun _ H' => Pair Q "fine" .non H') (E := EX A Q) (Dp.ext e1 hd) hs (Dp.ext e1 hd2) hs2 (fun z' e h1 => (no z' e h1).elim) (fun _ H2 s2 => .inr (.inl ⟨rfl, k H2 (e1.trans (ExtN.same s2)) (Tabs.same T1 s2)⟩)) (fun z' y e h1 => (no z' e h1).elim)
/-- plain(v): v no letters -/
theorem go_plain {i : Nat} (hi : σ[i]? = some (some v)) (hT : LamX.Tabs [(A.tL, q)] H) (hd : Dp K H v d) (hs : small0 d) (hn : isLetD d = false)
    (k : ∀ H', ExtN H H' → LamX.Tabs [(A.tL, q)] H' → Pair Q "letters" .non H') :
    tLam [(A.tL, q)] (TTraised A) (fun E => tCall (sp_plain K A) [] E (tCons (tVar i) tNil)) σ H Q := by
  refine ⟨hT, fun H1 e1 T1 => ⟨_, hi, _, d, rfl, Dp.ext e1 hd, hs, fun h => absurd h (by rw [hn]; exact Bool.false_ne_true), fun _ H2 s2 => .inr (.inl ⟨rfl, k H2 (e1.trans (ExtN.same s2)) (Tabs.same T1 s2)⟩)⟩⟩
/-- machine.made(v), machine.state_after(v): v no value -/
theorem go_made {i j : Nat} {p : Addr} {R : Rows} (hi : σ[i]? = some (some (.ref p))) (hj : σ[j]? = some (some v)) (hT : LamX.Tabs [(A.tL, q)] H) (hM : IsM K A.C H p z R) (hd : Dp K H v d) (hs : small d) (hn : isValD z d = false)
    (k : ∀ H', ExtN H H' → LamX.Tabs [(A.tL, q)] H' → Pair Q "value" .non H') :
    tLam [(A.tL, q)] (TTraised A) (fun E => tMeth A.C "made" (sp_made K A) [] E (tVar i) (tCons (tVar j) tNil)) σ H Q := by
  refine ⟨hT, fun H1 e1 T1 => ?_⟩
  obtain ⟨dx, r, hp, _⟩ := (IsM.ext hM e1).at_
  refine ⟨_, hi, p, dx, _, rfl, hp, mfs_no _ _ (by decide +kernel) (by decide +kernel), _, hj, p, v, d, z, R, rfl, IsM.ext hM e1, Dp.ext e1 hd, hs, fun x' e hx => ?_, fun _ H2 s2 => .inr (.inr ⟨rfl, k H2 (e1.trans (ExtN.same s2)) (Tabs.same T1 s2)⟩)⟩
  subst e
  cases hd
  rw [isVal_of hx] at hn
  cases hn
theorem go_after {i j : Nat} {p : Addr} {R : Rows} (hi : σ[i]? = some (some (.ref p))) (hj : σ[j]? = some (some v)) (hT : LamX.Tabs [(A.tL, q)] H) (hM : IsM K A.C H p z R) (hd : Dp K H v d) (hs : small d) (hn : isValD z d = false)
    (k : ∀ H', ExtN H H' → LamX.Tabs [(A.tL, q)] H' → Pair Q "value" .non H') :
    tLam [(A.tL, q)] (TTraised A) (fun E => tMeth A.C "state_after" (sp_state_after K A) [] E (tVar i) (tCons (tVar j) tNil)) σ H Q := by
  refine ⟨hT, fun H1 e1 T1 => ?_⟩
  obtain ⟨dx, r, hp, _⟩ := (IsM.ext hM e1).at_
  refine ⟨_, hi, p, dx, _, rfl, hp, mfs_no _ _ (by decide +kernel) (by decide +kernel), _, hj, p, v, d, z, R, rfl, IsM.ext hM e1, Dp.ext e1 hd, hs, fun x' e hx => ?_, fun _ H2 s2 => .inr (.inr ⟨rfl, k H2 (e1.trans (ExtN.same s2)) (Tabs.same T1 s2)⟩)⟩
  subst e
  cases hd
  rw [isVal_of hx] at hn
  cases hn
end
end
/-! what is no letters, no value -/
theorem noLets : ∀ d ∈ [PyData.str "a", .str "aa", .str "abcde", .str "a-", .str "a b", .none, .tuple [.str "a", .str "b"], .str "", .str "ab1"], isLetD d = false ∧ small0 d := by
  intro d hd
  simp only [List.mem_cons, List.not_mem_nil, or_false] at hd
  rcases hd with rfl | rfl | rfl | rfl | rfl | rfl | rfl | rfl | rfl
  all_goals first | exact ⟨by decide +kernel, show (_ : Nat) ≤ 100000 by decide +kernel⟩ | exact ⟨rfl, trivial⟩
theorem no_eq : ∀ z ∈ L8, 61 ∉ zs z := by decide +kernel
theorem noVals {z x : Str} (hz : z ∈ L8) (hx : x.length ≤ 100) : ∀ d ∈ [PyData.none, .int 0, .str (x ++ "?"), .list [.str x], .str "="], isValD z d = false ∧ small d := by
  have h63 := no_ask z hz
  have h61 := no_eq z hz
  have e63 : zs (Str.ofString "?") = [63] := by decide +kernel
  have e61 : zs (Str.ofString "=") = [61] := by decide +kernel
  intro d hd
  simp only [List.mem_cons, List.not_mem_nil, or_false] at hd
  rcases hd with rfl | rfl | rfl | rfl | rfl
  · exact ⟨rfl, trivial⟩
  · exact ⟨rfl, trivial⟩
  · refine ⟨?_, ?_⟩
    · show (zs (x ++ Str.ofString "?")).all _ = false
      rw [zs_app, e63]
      simp [h63]
    · show (x ++ Str.ofString "?").length ≤ 100000
      rw [len_app]
      show x.length + 1 ≤ 100000
      omega
  · exact ⟨rfl, trivial⟩
  · refine ⟨?_, show (1 : Nat) ≤ 100000 by decide⟩
    simp only [isValD]
    rw [e61]
    simp [h61]
theorem noRows {z : Str} {ds : List PyData} : ∀ d ∈ [PyData.none, .list ds, .tuple [], .tuple (ds ++ List.replicate 7 (.tuple [])), .str "rows"], (ds.length ≤ 6 ∧ ∀ e ∈ ds, smallR e) → rowsV z d = some .non ∧ smallRows d := by
  intro d hd ⟨hl, hs⟩
  simp only [List.mem_cons, List.not_mem_nil, or_false] at hd
  rcases hd with rfl | rfl | rfl | rfl | rfl
  · exact ⟨rfl, trivial⟩
  · exact ⟨rfl, trivial⟩
  · exact ⟨rfl, ⟨Nat.zero_le _, fun e he => nomatch he⟩⟩
  · refine ⟨?_, ?_, fun e he => ?_⟩
    · show (if _ ∧ _ then _ else _) = _
      rw [if_neg (by rw [List.length_append, List.length_replicate]; omega)]
    · rw [List.length_append, List.length_replicate]; omega
    · rcases List.mem_append.mp he with h | h
      · exact hs e h
      · rw [(List.mem_replicate.mp h).2]
        exact ⟨Nat.zero_le _, fun t ht => nomatch ht⟩
  · exact ⟨rfl, trivial⟩
end K1
set_option Elab.async false
set_option linter.all false
set_option maxRecDepth 100000
set_option maxHeartbeats 8000000
namespace K1
open PySem PySem.Spec PyProof.Rows L2 FX LamX
theorem l8_rev : ∀ z ∈ L8, S (zs z).reverse ∈ L8 ∧ S (zs z).reverse ≠ z := by decide +kernel
theorem rev_ok {z : Str} {R : Rows} (M : MachOk (zs z) R) : MachOk (zs (S (zs z).reverse)) R := by
  rw [zs_S]
  exact ⟨M.pos, fun row h => by rw [List.length_reverse]; exact M.rows row h, M.st, M.one, fun row h t ht c hc => List.mem_reverse.mpr (M.out row h t ht c hc)⟩
theorem strs_lay {z : Str} (hz : z ∈ L8) {l : List Nat} (h : ∀ c ∈ l, c ∈ zs z) (i : Int) : (PyData.tuple [.str (S l), .int i]).canLay0 = true := by
  have h : PyData.strOk (S l) = true := by
    show (S l).cps.all _ = true
    rw [Array.all_eq_true']
    intro c hc
    exact decide_eq_true (l8_code z hz c (h c (by simpa [S] using hc)))
  simp [PyData.canLay0, PyData.canLayAll0, h]
theorem if_go {r : R2} {t u : TE} {a b : TS} {D : Ends} {σ : L2.St} {H : Hp} (h : t σ H fun x H1 => u σ H1 fun y H2 => r x y H2 fun v H3 => ∃ c, v = .bl c ∧ if c = true then a D σ H3 else b D σ H3) : tIfS (tTest (tOp r t u)) a b D σ H := h
theorem flat_rep7 (x : V) : (List.replicate (7 : Int).toNat [x]).flatten = List.replicate 7 x := rfl
theorem pos6 : (0 : Int) < 6 := by decide
theorem strs_depth (l : List Nat) (i : Int) : (PyData.tuple [.str (S l), .int i]).depth ≤ 64 := by simp [PyData.depth, PyData.depthAll]
section
variable {P : Program} {w : World} {K : PySem.W.Frag} {mg : Str → Option Value} {base : Heap} {A : Ad}
def sp_law (K : PySem.W.Frag) (A : Ad) : Sp := fun vs H Q _ => ∃ (a : Addr) (ns : List Int), vs = [.ref a] ∧ SqL K H a (ns.map V.int) ∧ ns.length ≤ 63 ∧ H A.tL = some (.tbl #[]) ∧ ∀ H', Q (.bl true) H'
theorem ok_law (T : Txt P K mg A) (TB : TabB base mg A.cL A.tL) : FnOk P w K mg base CX0 14 A.a_law A.d_law ["script"] (sp_law K A) := by
  refine okC T.f_law.F sc_law (fun vs H Q E h => ?_) (fun Ar outer s H vs Q E hr h => ?_)
  · obtain ⟨a, ns, rfl, _⟩ := h
    rfl
  · obtain ⟨a, ns, rfl, hS1, hS2, hT0, q⟩ := h
    have hS : Scr K H a ns := ⟨hS1, hS2⟩
    refine ⟨_, (pss_cons (ps_set (i := 1) sc_law.nd rfl (Or.inr rfl) (pe_call (ok_law_letters T) (hr.mono (by decide)) (by rfl) T.f_law_letters.g T.f_law_letters.F.kp T.f_law_letters.b .nil pass0 (pa_cons (pv 0) (pa_cons pe_int pa_nil)))) (pss_cons (ps_asg (pe_tup (pa_cons (pe_call (ok_law_rows T) (hr.mono (by decide)) (by rfl) T.f_law_rows.g T.f_law_rows.F.kp T.f_law_rows.b .nil pass0 (pa_cons (pv 0) (pa_cons pe_int (pa_cons (pv 1) (pa_cons pe_int pa_nil))))) (pa_cons (pe_call (ok_law_value T) (hr.mono (by decide)) (by rfl) T.f_law_value.g T.f_law_value.F.kp T.f_law_value.b .nil pass0 (pa_cons (pv 0) (pa_cons pe_int (pa_cons (pv 1) (pa_cons pe_int pa_nil))))) pa_nil))) (pg_tup (by rfl) (pgs_cons (pg_name (i := 2) sc_law.nd rfl (Or.inr rfl)) (pgs_cons (pg_name (i := 3) sc_law.nd rfl (Or.inl rfl)) pgs_nil)))) (pss_cons (ps_set (i := 4) sc_law.nd rfl (Or.inl rfl) (pe_call (ok_law_value T) (hr.mono (by decide)) (by rfl) T.f_law_value.g T.f_law_value.F.kp T.f_law_value.b .nil pass0 (pa_cons (pv 0) (pa_cons pe_int (pa_cons (pv 1) (pa_cons pe_int pa_nil)))))) (pss_cons (ps_set (i := 5) sc_law.nd rfl (Or.inr rfl) (pe_make T.mkC (ok_Machine_init T) (hr.mono (by decide)) (by rfl) T.g_Machine T.f_Machine_init.b .nil passL (pa_cons (pv 1) (pa_cons (pv 2) pa_nil)))) (pss_cons (ps_if (pt_cmpR (op_neD hr.units) (pe_tup (pa_cons (pe_meth (pv 5) T.cl T.m_made (ok_Machine_made T) (hr.mono (by decide)) T.f_Machine_made.b .nil passL (pa_cons (pv 3) pa_nil)) (pa_cons (pe_meth (pv 5) T.cl T.m_state_after (ok_Machine_state_after T) (hr.mono (by decide)) T.f_Machine_state_after.b .nil passL (pa_cons (pv 3) pa_nil)) pa_nil))) (pe_revT (pe_call (ok_law_ends T) (hr.mono (by decide)) (by rfl) T.f_law_ends.g T.f_law_ends.F.kp T.f_law_ends.b .nil pass0 (pa_cons (pv 1) (pa_cons (pv 2) (pa_cons (pv 3) pa_nil))))) (nomark _)) (pss_one (ps_ret pe_bl)) pss_nil) (pss_cons (ps_if (PW.pt (pw_or (pt_cmpR op_ne (pe_prop (pv 5) T.cl T.p_letters (ok_Machine_letters T) (hr.mono (by decide)) T.f_Machine_letters.b .nil pass0 rfl) (pv 1) (nomark _)) (pw_or (pt_cmpR (op_neD hr.units) (pe_prop (pv 5) T.cl T.p_rows (ok_Machine_rows T) (hr.mono (by decide)) T.f_Machine_rows.b .nil pass0 rfl) (pv 2) (nomark _)) (pw_or1 (pt_cmpR op_ne (pe_callB (call_lenOwn (ok_Machine_len T) (hr.mono (by decide)) T.m_len.at_ T.m_len.fn T.f_Machine_len.b) (by rfl) T.n_len (by decide +kernel) (pa_cons (pv 5) pa_nil)) (pe_callB call_len_seq (by rfl) T.n_len (by decide +kernel) (pa_cons (pv 2) pa_nil)) (nomark _)))))) (pss_one (ps_ret pe_bl)) pss_nil) (pss_cons (ps_if (PW.pt (pw_or (pt_cmpR (op_neOwn (ok_Machine_eq T) (hr.mono (by decide)) T.neC T.m_eq.at_ T.m_eq.fn T.iM T.f_Machine_eq.b) (pv 5) (pe_make T.mkC (ok_Machine_init T) (hr.mono (by decide)) (by rfl) T.g_Machine T.f_Machine_init.b .nil passL (pa_cons (pv 1) (pa_cons (pv 2) pa_nil))) (nomark _)) (pw_or1 (pt_cmpR (op_eqOwn (ok_Machine_eq T) (hr.mono (by decide)) (first_self _ _) T.m_eq.at_ T.m_eq.fn T.f_Machine_eq.b) (pv 5) (pe_make T.mkC (ok_Machine_init T) (hr.mono (by decide)) (by rfl) T.g_Machine T.f_Machine_init.b .nil passL (pa_cons (pe_revS (pv 1)) (pa_cons (pv 2) pa_nil))) (nomark _))))) (pss_one (ps_ret pe_bl)) pss_nil) (pss_cons (ps_if (pt_not (pt_val (pe_call (ok_law_ready_right T) (hr.mono (by decide)) (by rfl) T.f_law_ready_right.g T.f_law_ready_right.F.kp T.f_law_ready_right.b .nil pass0 (pa_cons (pv 1) (pa_cons (pv 3) (pa_cons (pv 4) (pa_cons (pe_op op_mod (pe_callTy call_int1 (by rfl) T.n_int (by decide +kernel) (pa_cons (pe_call (ok_law_number T) (hr.mono (by decide)) (by rfl) T.f_law_number.g T.f_law_number.F.kp T.f_law_number.b .nil pass0 (pa_cons (pv 0) (pa_cons pe_int pa_nil))) pa_nil)) pe_int) pa_nil))))))) (pss_one (ps_ret pe_bl)) pss_nil) (pss_cons (ps_asg (pe_call (ok_law_bent T) (hr.mono (by decide)) (by rfl) T.f_law_bent.g T.f_law_bent.F.kp T.f_law_bent.b .nil pass0 (pa_cons (pe_callTy call_int1 (by rfl) T.n_int (by decide +kernel) (pa_cons (pe_call (ok_law_number T) (hr.mono (by decide)) (by rfl) T.f_law_number.g T.f_law_number.F.kp T.f_law_number.b .nil pass0 (pa_cons (pv 0) (pa_cons pe_int pa_nil))) pa_nil)) (pa_cons (pv 1) (pa_cons (pv 2) pa_nil)))) (pg_tup (by rfl) (pgs_cons (pg_name (i := 6) sc_law.nd rfl (Or.inr rfl)) (pgs_cons (pg_name (i := 7) sc_law.nd rfl (Or.inl rfl)) pgs_nil)))) (pss_cons (ps_if (pt_cmpR (op_neD hr.units) (raised_1 T TB hr) (pe_ifExp (pt_cmpR op_isN (pv 7) pe_non (nomark _)) (pe_tup (pa_cons pe_str (pa_cons pe_non pa_nil))) (pe_tup (pa_cons pe_str (pa_cons (pv 7) pa_nil)))) (nomark _)) (pss_one (ps_ret pe_bl)) pss_nil) (pss_cons (ps_for PassesOwn.never rfl (pi_tup (pe_tup (pa_cons pe_non (pa_cons (pe_callTy call_list_of (by rfl) T.n_list (by decide +kernel) (pa_cons (pv 2) pa_nil)) (pa_cons (pe_tup pa_nil) (pa_cons (pe_op op_catA (pv 2) (pe_op op_repT (pe_tup (pa_cons (pe_tup pa_nil) pa_nil)) pe_int)) (pa_cons pe_str pa_nil))))))) (pg_name (i := 8) sc_law.nd rfl (Or.inr rfl)) (pss_one (ps_if (pt_cmpR (op_neD hr.units) (raised_2 T TB hr) (pe_tup (pa_cons pe_str (pa_cons pe_non pa_nil))) (nomark _)) (pss_one (ps_ret pe_bl)) pss_nil))) (pss_cons (ps_for PassesOwn.never rfl (pi_tup (pe_tup (pa_cons pe_str (pa_cons pe_str (pa_cons pe_str (pa_cons pe_str (pa_cons pe_str (pa_cons pe_non (pa_cons (pe_tup (pa_cons pe_str (pa_cons pe_str pa_nil))) (pa_cons pe_str (pa_cons pe_str pa_nil))))))))))) (pg_name (i := 8) sc_law.nd rfl (Or.inr rfl)) (pss_cons (ps_if (pt_cmpR (op_neD hr.units) (raised_3 T TB hr) (pe_tup (pa_cons pe_str (pa_cons pe_non pa_nil))) (nomark _)) (pss_one (ps_ret pe_bl)) pss_nil) (pss_one (ps_if (pt_cmpR (op_neD hr.units) (raised_4 T TB hr) (pe_tup (pa_cons pe_str (pa_cons pe_non pa_nil))) (nomark _)) (pss_one (ps_ret pe_bl)) pss_nil)))) (pss_cons (ps_for PassesOwn.never rfl (pi_tup (pe_tup (pa_cons pe_non (pa_cons pe_int (pa_cons (pe_op op_add_str (pv 3) pe_str) (pa_cons (pe_lst (pa_cons (pv 3) pa_nil)) (pa_cons pe_str pa_nil))))))) (pg_name (i := 8) sc_law.nd rfl (Or.inr rfl)) (pss_cons (ps_if (pt_cmpR (op_neD hr.units) (raised_5 T TB hr) (pe_tup (pa_cons pe_str (pa_cons pe_non pa_nil))) (nomark _)) (pss_one (ps_ret pe_bl)) pss_nil) (pss_one (ps_if (pt_cmpR (op_neD hr.units) (raised_6 T TB hr) (pe_tup (pa_cons pe_str (pa_cons pe_non pa_nil))) (nomark _)) (pss_one (ps_ret pe_bl)) pss_nil)))) (pss_one (ps_ret (pe_call (ok_law_order_right T) (hr.mono (by decide)) (by rfl) T.f_law_order_right.g T.f_law_order_right.F.kp T.f_law_order_right.b .nil pass0 (pa_cons (pv 0) (pa_cons (pv 1) (pa_cons (pv 3) pa_nil))))))))))))))))))), ?_⟩
    refine ⟨_, rfl, a, ns, 0, rfl, hS, by decide, by decide, fun z H1 s1 hz => ?_⟩
    refine ⟨_, rfl, _, rfl, a, ns, 10, z, 6, rfl, hS.same s1, by decide, by decide, hz, by decide, by decide, fun v H2 R s2 hok h6 hv => ?_⟩
    refine ⟨_, rfl, _, rfl, a, ns, 90, z, 9, rfl, hS.same (s1.trans s2), by decide, by decide, hz, by decide, fun x H3 s3 hx hxz => ?_⟩
    refine ⟨by show 2 ≤ sizeLine; decide, fun p hp => ⟨p, _, rfl, SqT.of upd_same, rfl, _, _, rfl, _, _, rfl, rfl, ?_⟩⟩
    have s3' : Same H2 (upd H3 p (.tup [v, V.str x])) := s3.trans (same_upd hp)
    have s0 : Same H (upd H3 p (.tup [v, V.str x])) := (s1.trans s2).trans s3'
    generalize upd H3 p (.tup [v, V.str x]) = H3' at s3' s0 ⊢
    refine ⟨_, rfl, _, rfl, a, ns, 91, z, 3, rfl, hS.same s0, by decide, by decide, hz, by decide, fun m H4 s4 hm hmz => ?_⟩
    have hrows : Dp K H4 v (rowsD R) := Dp.same (s3'.trans s4) (dp_new hv)
    have s04 : Same H H4 := s0.trans s4
    obtain ⟨t, xs, rfl, hts, hta⟩ := Dp.tupOf hrows
    have hf := rows_fine hok hz h6
    have lno : ∀ {z'}, z' ∈ L8 → isLetD (.str z') = false → False := fun hz' e => absurd (l8_let _ hz') (by rw [e]; exact Bool.false_ne_true)
    have vno : isValD z (.str x) = false → False := fun e => absurd (isVal_of hxz) (by rw [e]; exact Bool.false_ne_true)
    have hx5 : small (.str x) := show x.length ≤ 100000 by omega
    have no1 : ∀ r, (mfs z r).lookup ("made" : Str) = none := fun r => mfs_no _ _ (by decide +kernel) (by decide +kernel)
    have no2 : ∀ r, (mfs z r).lookup ("state_after" : Str) = none := fun r => mfs_no _ _ (by decide +kernel) (by decide +kernel)
    refine ⟨_, rfl, _, rfl, ?_⟩
    intro y0 dy0 ny0 ndy0 ney0
    have sA := mk_sm (o := .ins A.C dy0 []) ny0 ndy0
    refine ⟨y0, dy0, .str z, .ref t, .str z, rowsD R, rfl, upd_same, .str z, l8_small0 hz, Dp.same sA hrows, hf.2, fun z' e h1 h2 H5 s5 hy => ⟨rfl, ?_⟩, fun h => (lno hz h).elim, fun z' y e h1 h2 => ?_⟩
    rotate_left
    · cases e; rw [hf.1] at h2; cases h2
    cases e
    have s45 : Same H4 H5 := sA.trans (s5.trans (hid_sub _ _))
    have hM : IsM K A.C H5 y0 z R := ⟨⟨dy0, t, hy, Dp.same s45 hrows⟩, hz, hok, h6⟩
    have hrows5 := Dp.same s45 hrows
    refine ⟨_, rfl, y0, dy0, _, rfl, hy, no1 _, _, rfl, y0, _, .str x, z, R, rfl, hM, .str x, hx5, fun x' e _ H6 s6 => ?_, fun e => (vno e).elim⟩
    cases e
    refine ⟨_, rfl, y0, dy0, _, rfl, s6 _ _ hy, no2 _, _, rfl, y0, _, .str x, z, R, rfl, hM.same s6, .str x, hx5, fun x' e _ H7 s7 => ?_, fun e => (vno e).elim⟩
    cases e
    refine ⟨by show 2 ≤ sizeLine; decide, fun p2 hp2 => ?_⟩
    have s57 : Same H5 (upd H7 p2 (.tup [.str (S (madeM (zs z) R (zs x))), .int (runM (zs z) R 0 (zs x)).1])) := (s6.trans s7).trans (same_upd hp2)
    have g2 : (upd H7 p2 (.tup [.str (S (madeM (zs z) R (zs x))), .int (runM (zs z) R 0 (zs x)).1])) p2 = some (.tup [.str (S (madeM (zs z) R (zs x))), .int (runM (zs z) R 0 (zs x)).1]) := upd_same
    generalize upd H7 p2 (.tup [.str (S (madeM (zs z) R (zs x))), .int (runM (zs z) R 0 (zs x)).1]) = H7' at s57 g2 ⊢
    refine ⟨_, rfl, _, rfl, _, rfl, z, x, _, R, rfl, hz, Dp.same s57 hrows5, hok, by omega, hxz, fun te H8 s8 hte => ⟨te, _, rfl, hte, fun p3 hp3 => ?_⟩⟩
    have s8' := s8.trans (same_upd (o := .tup [V.int (runM (zs z) R 0 (zs x)).1, V.str (S (madeM (zs z) R (zs x)))].reverse) hp3)
    have ev : PyData.eqv (.tuple [.str (S (madeM (zs z) R (zs x))), .int (runM (zs z) R 0 (zs x)).1]) (.tuple [.str (S (madeM (zs z) R (zs x))), .int (runM (zs z) R 0 (zs x)).1]) = true := SeqAt.eqv_refl _ (strs_lay hz (runM_out hok (zs x) 0 hok.pos hxz) _)
    have sh : SeqAt.shaped (.tuple [.str (S (madeM (zs z) R (zs x))), .int (runM (zs z) R 0 (zs x)).1]) = true := shaped_of (strs_lay hz (runM_out hok (zs x) 0 hok.pos hxz) _) (strs_depth _ _)
    refine ⟨.tuple [.str (S (madeM (zs z) R (zs x))), .int (runM (zs z) R 0 (zs x)).1], .tuple [.str (S (madeM (zs z) R (zs x))), .int (runM (zs z) R 0 (zs x)).1], Dp.tupNew (s8' _ _ g2) (.cons (.str _) (.cons (.int _) .nil)), Dp.tupNew upd_same (.cons (.str _) (.cons (.int _) .nil)), sh, sh, _, rfl, iteD0 (by rw [ev]; rfl) ?_⟩
    have s58 := s57.trans s8'
    generalize upd H8 p3 (.tup [V.int (runM (zs z) R 0 (zs x)).1, V.str (S (madeM (zs z) R (zs x)))].reverse) = H8' at s8' s58 ⊢
    have hy8 := s58 _ _ hy
    have hM8 := hM.same s58
    have hrows8 := Dp.same s58 hrows5
    have hts8 := SqT.same (s45.trans s58) hts
    refine ⟨_, rfl, y0, dy0, _, rfl, hy8, y0, z, R, rfl, hM8, _, rfl, rfl, _, rfl, iteD0 (by simp) ?_⟩
    refine ⟨_, rfl, y0, dy0, _, rfl, hy8, y0, z, R, rfl, hM8, fun v hv => ⟨_, rfl, rowsD R, rowsD R, hv, hrows8, rowsD_shaped hz hok, rowsD_shaped hz hok, _, rfl, iteD0 (by rw [SeqAt.eqv_refl _ (rowsD_lay hz hok)]; rfl) ?_⟩⟩
    have hxl : xs.length = R.length := by rw [DpAll.len hta, List.length_map]
    refine ⟨_, rfl, y0, dy0, _, rfl, hy8, y0, z, R, rfl, hM8, ⟨_, rfl, by omega, by omega, _, rfl, t, xs, rfl, .inr hts8, rfl, _, rfl, iteD0 (by rw [hxl]; simp) ?_⟩⟩
    refine ⟨_, rfl, _, rfl, _, rfl, ?_⟩
    intro y1 dy1 ny1 ndy1 ney1
    have sB := mk_sm (o := .ins A.C dy1 []) ny1 ndy1
    refine ⟨y1, dy1, .str z, .ref t, .str z, rowsD R, rfl, upd_same, .str z, l8_small0 hz, Dp.same sB hrows8, hf.2, fun z' e h1 h2 H9 s9 hy9 => ⟨rfl, ?_⟩, fun h => (lno hz h).elim, fun z' y e h1 h2 => ?_⟩
    rotate_left
    · cases e; rw [hf.1] at h2; cases h2
    cases e
    have s89 : Same H8' H9 := sB.trans (s9.trans (hid_sub _ _))
    refine ⟨y0, y1, dy0, dy1, _, _, rfl, rfl, s89 _ _ hy8, hy9, y0, y1, z, z, R, dy1, t, rfl, hM8.same s89, hy9, fun _ => Dp.same s89 hrows8, _, rfl, _, rfl, iteD0 (by simp) ?_⟩
    refine ⟨_, rfl, _, rfl, z, rfl, l8_line hz, fun y hyr => ⟨_, rfl, ?_⟩⟩
    obtain rfl : y = S (zs z).reverse := by
      rw [← S_zs y]
      exact congrArg S hyr
    obtain ⟨rz1, rz2⟩ := l8_rev z hz
    have hfr := rows_fine (rev_ok hok) rz1 h6
    intro y2 dy2 ny2 ndy2 ney2
    have sC := mk_sm (o := .ins A.C dy2 []) ny2 ndy2
    refine ⟨y2, dy2, .str (S (zs z).reverse), .ref t, .str (S (zs z).reverse), rowsD R, rfl, upd_same, .str _, l8_small0 rz1, Dp.same (s89.trans sC) hrows8, hfr.2, fun z' e h1 h2 H10 s10 hy10 => ⟨rfl, ?_⟩, fun h => (lno rz1 h).elim, fun z' y e h1 h2 => ?_⟩
    rotate_left
    · cases e; rw [hfr.1] at h2; cases h2
    cases e
    have s810 : Same H8' H10 := s89.trans (sC.trans (s10.trans (hid_sub _ _)))
    have s510 := s58.trans s810
    refine ⟨y0, y2, dy0, dy2, _, _, rfl, rfl, s810 _ _ hy8, hy10, y0, y2, z, S (zs z).reverse, R, dy2, t, rfl, hM8.same s810, hy10, fun _ => Dp.same s810 hrows8, _, rfl, iteD0 (decide_eq_false fun e => rz2 e.symm) ?_⟩
    have s010 : Same H H10 := (s04.trans s45).trans s510
    refine ⟨_, rfl, _, rfl, _, rfl, _, rfl, a, ns, 5, rfl, hS.same s010, by decide, by decide, fun r H11 s11 r0 r1 => .inl ⟨_, rfl, _, _, rfl, rfl, pos6, ?_⟩⟩
    have q0 : 0 ≤ r % 6 := Int.emod_nonneg _ (by decide)
    have q1 : r % 6 < 6 := Int.emod_lt_of_pos _ (by decide)
    refine ⟨z, x, m, (r % 6).toNat, ?_, hz, by omega, hxz, by omega, hmz, by omega, fun H12 s12 => ⟨_, rfl, iteF ?_⟩⟩
    · rw [show (((r % 6).toNat : Nat) : Int) = r % 6 by omega]
      rfl
    have s512 := s510.trans (s11.trans s12)
    refine ⟨_, rfl, a, ns, 6, rfl, hS.same (s010.trans (s11.trans s12)), by decide, by decide, fun r2 H13 s13 r20 r21 => .inl ⟨_, rfl, _, rfl, _, rfl, z, _, R, r2, rfl, r20, r21, hz, Dp.same (s512.trans s13) hrows5, hok, h6, fun tb v1 wv d H14 s14 htb hv1 hd1 hw => ⟨tb, _, rfl, htb, rfl, _, _, rfl, _, _, rfl, rfl, ?_⟩⟩⟩
    have s514 := s512.trans (s13.trans s14)
    have pm := fun (d : PyData) (h : d = .none ∨ ∃ i : Int, d = .int i) => pair_shaped "machine" d h (by decide +kernel)
    have pf := pair_shaped "fine" .none (.inl rfl) (by decide +kernel)
    have pl := pair_shaped "letters" .none (.inl rfl) (by decide +kernel)
    have pv' := pair_shaped "value" .none (.inl rfl) (by decide +kernel)
    have sAll : Same H H14 := (s04.trans s45).trans s514
    obtain ⟨qq, hq⟩ : ∃ qq, (XL P w K mg base A Ar outer s H E).env.qual ++ ("<lambda>" : Str) = qq := ⟨_, rfl⟩
    have T14 : LamX.Tabs [(A.tL, qq)] H14 := fun p hp => by
      rw [List.mem_singleton.mp hp]
      exact LamX.TabS.nil (sAll _ _ hT0)
    dsimp only
    refine seq_cut (t := tIfS _ _ _) (fun σ1 HZ => σ1 = [some (.ref a), some (.str z), some (.ref t), some (.str x), some (.str m), some (.ref y0), some v1, some wv, none] ∧ ExtN H14 HZ ∧ LamX.Tabs [(A.tL, qq)] HZ) ?_ ?_
    rotate_left
    · intro nx kk
      refine if_go ?_
      rw [show (XL P w K mg base A Ar outer s H E).env.qual ++ ("<lambda>" : Str) = qq from hq]
      refine go_rows (j := 6) hz rfl rfl T14 hv1 hd1 (fun H' e T => ⟨fun hn => ?_, fun y hy => ?_⟩)
      · rcases hw with ⟨rfl, _⟩ | ⟨n, rfl, hw⟩
        · exact ⟨by show 2 ≤ sizeLine; decide, fun t ht => ⟨_, rfl, rfl, _, rfl, iteD1 (decide_eq_true rfl) ((neq_pair (fun _ => .non) pf.1 pf.2 (fun H2 s2 => ⟨_, rfl, iteF (kk _ _ ⟨rfl, e.trans (ExtN.same s2), Tabs.same T s2⟩)⟩)).2 t ht)⟩⟩
        · rw [hw] at hn
          cases hn
      · rcases hw with ⟨rfl, hw⟩ | ⟨n, rfl, hw⟩
        · rw [hw] at hy
          cases hy
        · rw [hw] at hy
          cases hy
          obtain ⟨g1, g2⟩ := pm (.int n) (.inr ⟨_, rfl⟩)
          exact ⟨by show 2 ≤ sizeLine; decide, fun t ht => ⟨_, rfl, rfl, _, rfl, iteD0 (decide_eq_false (by simp)) ⟨_, rfl, (neq_pair (σ := []) (fun _ => .int _) g1 g2 (fun H2 s2 => ⟨_, rfl, iteF (kk _ _ ⟨rfl, e.trans (ExtN.same s2), Tabs.same T s2⟩)⟩)).2 t ht⟩⟩⟩
    rintro σ HZ ⟨rfl, eZ, TZ⟩
    have eAll : ExtN H4 HZ := (ExtN.same (s45.trans s514)).trans eZ
    have htsZ := ExtN.seqT eAll hts
    have htaZ := DpAll.ext eAll hta
    have hMZ := IsM.ext hM ((ExtN.same s514).trans eZ)
    refine seq_cut (t := tFor _ _ _) (fun σ1 HY => (∃ o8, σ1 = [some (.ref a), some (.str z), some (.ref t), some (.str x), some (.str m), some (.ref y0), some v1, some wv, o8]) ∧ ExtN HZ HY ∧ LamX.Tabs [(A.tL, qq)] HY) ?_ ?_
    rotate_left
    · intro nx kk
      refine ⟨_, rfl, t, xs, rfl, .inr htsZ, fun l hl => ⟨Nat.zero_le _, fun p1 hp1 => ⟨_, rfl, Nat.zero_le _, fun p2 hp2 => ⟨by show 1 ≤ sizeLine; decide, fun p3 hp3 => ⟨p3, 7, [.ref p2], rfl, rfl, SqT.of upd_same, by simp, by decide, by decide, by show 1 ≤ 1000; decide, fun p4 hp4 => ?_⟩⟩⟩⟩⟩
      rw [flat_rep7] at *
      have u1 := same_upd (o := .lst xs) hl
      have u2 := same_upd (o := .tup []) hp1
      have u3 := same_upd (o := .tup []) hp2
      have u4 := same_upd (o := .tup [V.ref p2]) hp3
      have u5 := same_upd (o := .tup (List.replicate 7 (V.ref p2))) hp4
      have u15 := u1.trans (u2.trans (u3.trans (u4.trans u5)))
      refine cat_go (SqT.same u15 htsZ) (SqT.of upd_same) ?_ fun tc HC sC hC => ?_
      · rw [List.length_replicate, hxl]
        exact Nat.le_trans (show _ ≤ 13 by omega) (by decide)
      refine ⟨by show 5 ≤ sizeLine; decide, fun pL hpL => ⟨pL, rfl, ⟨_, SqT.of upd_same⟩, ?_⟩⟩
      have u6 := same_upd (o := .tup [V.non, .ref l, .ref p1, .ref tc, .str "rows"]) hpL
      have uC := u15.trans (sC.trans u6)
      have k2 := (u2.trans (u3.trans (u4.trans u5))).trans (sC.trans u6) _ _ (upd_same (H := HZ) (a := l) (o := .lst xs))
      have k3 := (u3.trans (u4.trans u5)).trans (sC.trans u6) _ _ (upd_same (a := p1) (o := .tup []))
      have k5 := (u4.trans u5).trans (sC.trans u6) _ _ (upd_same (a := p2) (o := .tup []))
      have kC := SqT.same u6 hC
      have gL := upd_same (H := HC) (a := pL) (o := .tup [V.non, .ref l, .ref p1, .ref tc, .str "rows"])
      have TL := Tabs.same TZ uC
      have eL := ExtN.same uC
      generalize upd HC pL (.tup [V.non, .ref l, .ref p1, .ref tc, .str "rows"]) = HL at k2 k3 k5 kC gL TL eL ⊢
      have hDL := DpAll.ext eL htaZ
      have lall : ∀ (j : Nat) (v : V), [V.non, .ref l, .ref p1, .ref tc, .str "rows"][j]? = some v → ∃ d, Dp K HL v d ∧ rowsV z d = some .non ∧ smallRows d := by
        have nr := noRows (z := z) (ds := R.map rowD)
        have hsm : (R.map rowD).length ≤ 6 ∧ ∀ e ∈ R.map rowD, smallR e := ⟨by rw [List.length_map]; exact h6, hf.2.2⟩
        intro j v hj
        rcases j with _ | _ | _ | _ | _ | j
        · cases hj; exact ⟨_, .non, nr _ (by simp) hsm⟩
        · cases hj; exact ⟨_, .lst (SqL.of k2) hDL, nr _ (by simp) hsm⟩
        · cases hj; exact ⟨_, .tup (SqT.of k3) .nil, nr _ (by simp) hsm⟩
        · cases hj
          refine ⟨_, .tup kC (DpAll.app hDL (dpAll_of (ds := List.replicate 7 (.tuple [])) (by simp) fun i u d h1 h2 => ?_)), nr _ (by simp) hsm⟩
          rw [(List.mem_replicate.mp (List.mem_of_getElem? h1)).2, (List.mem_replicate.mp (List.mem_of_getElem? h2)).2]
          exact .tup (SqT.of k5) .nil
        · cases hj; exact ⟨_, .str _, nr _ (by simp) hsm⟩
        · cases hj
      refine for_it (walk_tup (xs := [V.non, .ref l, .ref p1, .ref tc, .str "rows"])) (fun i σ H' => (∃ o8, σ = [some (.ref a), some (.str z), some (.ref t), some (.str x), some (.str m), some (.ref y0), some v1, some wv, o8]) ∧ ExtN HL H' ∧ LamX.Tabs [(A.tL, qq)] H')
        ⟨⟨_, rfl⟩, ExtN.refl _, TL⟩ (fun i σ H' _ h => ExtN.seqT h.2.1 (SqT.of gL)) ?_ ?_
      · rintro i y σ H2 H3 hi ⟨⟨o8, rfl⟩, e2, T2⟩ ⟨rfl, hy⟩
        obtain ⟨d, hd, hr, hs⟩ := lall i y hy
        refine gName_go (if_go ?_)
        rw [hq]
        refine go_rows (j := 8) hz rfl rfl T2 (Dp.ext e2 hd) hs (fun H' e T => ⟨fun hn => ?_, fun y' hy' => ?_⟩)
        · rw [hr] at hn; cases hn
        · rw [hr] at hy'
          cases hy'
          obtain ⟨g1, g2⟩ := pm .none (.inl rfl)
          exact neq_pair (fun _ => .non) g1 g2 (fun H4 s4 => ⟨_, rfl, iteF ⟨⟨_, rfl⟩, (e2.trans e).trans (ExtN.same s4), Tabs.same T s4⟩⟩)
      · rintro σ H2 ⟨⟨o8, rfl⟩, e2, T2⟩
        exact kk _ _ ⟨⟨_, rfl⟩, eL.trans e2, T2⟩
    rintro σ HY ⟨⟨o8, rfl⟩, eY, TY⟩
    have hrowsY := Dp.ext (eAll.trans eY) hrows
    refine seq_cut (t := tFor _ _ _) (fun σ1 HX => (∃ o8, σ1 = [some (.ref a), some (.str z), some (.ref t), some (.str x), some (.str m), some (.ref y0), some v1, some wv, o8]) ∧ ExtN HY HX ∧ LamX.Tabs [(A.tL, qq)] HX) ?_ ?_
    rotate_left
    · intro nx kk
      refine ⟨by show 2 ≤ sizeLine; decide, fun p1 hp1 => ⟨by show 9 ≤ sizeLine; decide, fun pL hpL => ⟨pL, rfl, ⟨_, SqT.of upd_same⟩, ?_⟩⟩⟩
      have u1 := same_upd (o := .tup [V.str "a", .str "b"]) hp1
      have u2 := same_upd (o := .tup [V.str "a", .str "aa", .str "abcde", .str "a-", .str "a b", .non, .ref p1, .str "", .str "ab1"]) hpL
      have k1 := u2 _ _ (upd_same (H := HY) (a := p1) (o := .tup [V.str "a", .str "b"]))
      have gL := upd_same (H := upd HY p1 (.tup [V.str "a", .str "b"])) (a := pL) (o := .tup [V.str "a", .str "aa", .str "abcde", .str "a-", .str "a b", .non, .ref p1, .str "", .str "ab1"])
      have TL := Tabs.same TY (u1.trans u2)
      have eL := ExtN.same (u1.trans u2)
      generalize upd (upd HY p1 (.tup [V.str "a", .str "b"])) pL (.tup [V.str "a", .str "aa", .str "abcde", .str "a-", .str "a b", .non, .ref p1, .str "", .str "ab1"]) = HL at k1 gL TL eL ⊢
      have lall : ∀ (j : Nat) (v : V), [V.str "a", .str "aa", .str "abcde", .str "a-", .str "a b", .non, .ref p1, .str "", .str "ab1"][j]? = some v → ∃ d, Dp K HL v d ∧ isLetD d = false ∧ small0 d := by
        intro j v hj
        rcases j with _ | _ | _ | _ | _ | _ | _ | _ | _ | j
        · cases hj; exact ⟨_, .str _, noLets _ (by simp)⟩
        · cases hj; exact ⟨_, .str _, noLets _ (by simp)⟩
        · cases hj; exact ⟨_, .str _, noLets _ (by simp)⟩
        · cases hj; exact ⟨_, .str _, noLets _ (by simp)⟩
        · cases hj; exact ⟨_, .str _, noLets _ (by simp)⟩
        · cases hj; exact ⟨_, .non, noLets _ (by simp)⟩
        · cases hj; exact ⟨_, .tup (SqT.of k1) (.cons (.str _) (.cons (.str _) .nil)), noLets _ (by simp)⟩
        · cases hj; exact ⟨_, .str _, noLets _ (by simp)⟩
        · cases hj; exact ⟨_, .str _, noLets _ (by simp)⟩
        · cases hj
      refine for_it (walk_tup (xs := [V.str "a", .str "aa", .str "abcde", .str "a-", .str "a b", .non, .ref p1, .str "", .str "ab1"])) (fun i σ H' => (∃ o8, σ = [some (.ref a), some (.str z), some (.ref t), some (.str x), some (.str m), some (.ref y0), some v1, some wv, o8]) ∧ ExtN HL H' ∧ LamX.Tabs [(A.tL, qq)] H')
        ⟨⟨_, rfl⟩, ExtN.refl _, TL⟩ (fun i σ H' _ h => ExtN.seqT h.2.1 (SqT.of gL)) ?_ ?_
      · rintro i y σ H2 H3 hi ⟨⟨o8, rfl⟩, e2, T2⟩ ⟨rfl, hy⟩
        obtain ⟨d, hd, hr, hs⟩ := lall i y hy
        refine gName_go ?_
        dsimp only [tSeq]
        refine if_go ?_
        rw [hq]
        refine go_first (i := 8) (j := 2) rfl rfl T2 (Dp.ext e2 hd) hs hr (Dp.ext (eL.trans e2) hrowsY) hf.2 (fun H' e T => ?_)
        refine neq_pair (fun _ => .non) pl.1 pl.2 (fun H4 s4 => ⟨_, rfl, iteF ?_⟩)
        dsimp only [tNext]
        refine if_go ?_
        have e24 := (e2.trans e).trans (ExtN.same s4)
        refine go_plain (i := 8) rfl (Tabs.same T s4) (Dp.ext e24 hd) hs hr (fun H5 e5 T5 => ?_)
        exact neq_pair (fun _ => .non) pl.1 pl.2 (fun H6 s6 => ⟨_, rfl, iteF ⟨⟨_, rfl⟩, (e24.trans e5).trans (ExtN.same s6), Tabs.same T5 s6⟩⟩)
      · rintro σ H2 ⟨⟨o8, rfl⟩, e2, T2⟩
        exact kk _ _ ⟨⟨_, rfl⟩, eL.trans e2, T2⟩
    rintro σ HX ⟨⟨o8, rfl⟩, eX, TX⟩
    have hMX := IsM.ext hMZ (eY.trans eX)
    refine seq_cut (t := tFor _ _ _) (fun σ1 HW => (∃ o8, σ1 = [some (.ref a), some (.str z), some (.ref t), some (.str x), some (.str m), some (.ref y0), some v1, some wv, o8]) ∧ ExtN HX HW) ?_ ?_
    rotate_left
    · intro nx kk
      refine ⟨_, rfl, x, "?", rfl, rfl, ?_, _, rfl, by show 1 ≤ sizeLine; decide, fun p1 hp1 => ⟨by show 5 ≤ sizeLine; decide, fun pL hpL => ⟨pL, rfl, ⟨_, SqT.of upd_same⟩, ?_⟩⟩⟩
      · show x.length + 1 ≤ sizeLine
        exact Nat.le_trans (show _ ≤ 10 by omega) (by decide)
      have u1 := same_upd (o := .lst [V.str x]) hp1
      have u2 := same_upd (o := .tup [V.non, .int 0, .str (x ++ "?"), .ref p1, .str "="]) hpL
      have k1 := u2 _ _ (upd_same (H := HX) (a := p1) (o := .lst [V.str x]))
      have gL := upd_same (H := upd HX p1 (.lst [V.str x])) (a := pL) (o := .tup [V.non, .int 0, .str (x ++ "?"), .ref p1, .str "="])
      have TL := Tabs.same TX (u1.trans u2)
      have eL := ExtN.same (u1.trans u2)
      generalize upd (upd HX p1 (.lst [V.str x])) pL (.tup [V.non, .int 0, .str (x ++ "?"), .ref p1, .str "="]) = HL at k1 gL TL eL ⊢
      have nv := noVals hz (show x.length ≤ 100 by omega)
      have lall : ∀ (j : Nat) (v : V), [V.non, .int 0, .str (x ++ "?"), .ref p1, .str "="][j]? = some v → ∃ d, Dp K HL v d ∧ isValD z d = false ∧ small d := by
        intro j v hj
        rcases j with _ | _ | _ | _ | _ | j
        · cases hj; exact ⟨_, .non, nv _ (by simp)⟩
        · cases hj; exact ⟨_, .int _, nv _ (by simp)⟩
        · cases hj; exact ⟨_, .str _, nv _ (by simp)⟩
        · cases hj; exact ⟨_, .lst (SqL.of k1) (.cons (.str _) .nil), nv _ (by simp)⟩
        · cases hj; exact ⟨_, .str _, nv _ (by simp)⟩
        · cases hj
      refine for_it (walk_tup (xs := [V.non, .int 0, .str (x ++ "?"), .ref p1, .str "="])) (fun i σ H' => (∃ o8, σ = [some (.ref a), some (.str z), some (.ref t), some (.str x), some (.str m), some (.ref y0), some v1, some wv, o8]) ∧ ExtN HL H' ∧ LamX.Tabs [(A.tL, qq)] H')
        ⟨⟨_, rfl⟩, ExtN.refl _, TL⟩ (fun i σ H' _ h => ExtN.seqT h.2.1 (SqT.of gL)) ?_ ?_
      · rintro i y σ H2 H3 hi ⟨⟨o8, rfl⟩, e2, T2⟩ ⟨rfl, hy⟩
        obtain ⟨d, hd, hr, hs⟩ := lall i y hy
        refine gName_go ?_
        dsimp only [tSeq]
        refine if_go ?_
        rw [hq]
        refine go_made (i := 5) (j := 8) rfl rfl T2 (IsM.ext hMX (eL.trans e2)) (Dp.ext e2 hd) hs hr (fun H' e T => ?_)
        refine neq_pair (fun _ => .non) pv'.1 pv'.2 (fun H4 s4 => ⟨_, rfl, iteF ?_⟩)
        dsimp only [tNext]
        refine if_go ?_
        have e24 := (e2.trans e).trans (ExtN.same s4)
        refine go_after (i := 5) (j := 8) rfl rfl (Tabs.same T s4) (IsM.ext hMX (eL.trans e24)) (Dp.ext e24 hd) hs hr (fun H5 e5 T5 => ?_)
        exact neq_pair (fun _ => .non) pv'.1 pv'.2 (fun H6 s6 => ⟨_, rfl, iteF ⟨⟨_, rfl⟩, (e24.trans e5).trans (ExtN.same s6), Tabs.same T5 s6⟩⟩)
      · rintro σ H2 ⟨⟨o8, rfl⟩, e2, T2⟩
        exact kk _ _ ⟨⟨_, rfl⟩, eL.trans e2⟩
    rintro σ HW ⟨⟨o8, rfl⟩, eW⟩
    have eEnd : ExtN H HW := (ExtN.same s04).trans (eAll.trans (eY.trans (eX.trans eW)))
    exact ⟨_, rfl, _, rfl, _, rfl, a, ns, z, x, rfl, Scr.ext hS eEnd, hz, by omega, hxz, fun H' _ => q H'⟩
end
end K1
set_option Elab.async false
set_option linter.all false
set_option maxRecDepth 100000
set_option maxHeartbeats 8000000
namespace K1
open PySem PySem.Spec PyProof.Rows L2 FX
/-- the law's code object and its table -/
def LawCode (K : PySem.W.Frag) (A : Ad) : Prop := ∃ (o : Obj) (e : Value) (dd : Option Addr) (vs : Array Value) (sl : Array (Option Value)), K.lookup A.a_law = some o ∧ o.data = .func A.d_law ∧ K.lookup A.cL = some ⟨e, dd, .fields vs, sl⟩ ∧ vs[11]? = some (.ref A.tL) ∧ PySem.W.codeHdIn K A.cL A.tL = true ∧ K.lookup A.tL = none
theorem exm_mk {K : PySem.W.Frag} {X Y : Addr} {cd : ClassData} {b : Bool} (h1 : PySem.W.subIn K (.ref Y) (.type "BaseException") = some true) (h2 : PySem.W.clsIn K Y = some cd) (h3 : PySem.W.typeIn K (.ref Y) = some (.type "type")) (h4 : PySem.W.subIn K (.ref X) (.ref Y) = some b) : PySem.W.exmOne K (.ref X) (.ref Y) = some b := by
  unfold PySem.W.exmOne
  rw [h1, if_pos (by simp)]
  show (if ((PySem.W.clsIn K Y).isSome && PySem.W.typeIn K (.ref Y) == some (.type "type")) = true then PySem.W.subIn K (.ref X) (.ref Y) else none) = some b
  rw [h2, h3, if_pos (by simp), h4]
theorem super_mk {K : PySem.W.Frag} {C F : Addr} {cd cf : ClassData} {r : List Value} {v : Option Value} {name : Str} (h1 : PySem.W.clsIn K C = some cd) (h2 : cd.mro = .ref C :: .ref F :: r) (h3 : PySem.W.clsIn K F = some cf) (h4 : cf.mro = .ref F :: r) (h5 : PySem.W.findIn K (.ref F) name = some v) : PySem.W.ks_superIn K C C name = some v := by
  unfold PySem.W.ks_superIn
  rw [h1]
  show PySem.W.alongIn K name ((cd.mro.dropWhile (· != .ref C)).drop 1) = some v
  rw [h2, List.dropWhile_cons, if_neg (by simp)]
  show PySem.W.alongIn K name (.ref F :: r) = some v
  unfold PySem.W.findIn at h5
  unfold PySem.W.clsIn at h3
  dsimp only at h5
  split at h3
  · rename_i q
    cases h3
    rw [q] at h5
    rw [← h4]
    exact h5
  · cases h3
theorem head_mk {K : PySem.W.Frag} {c P : Addr} {d : Option Addr} {vs : Array Value} {sl : Array (Option Value)} (h : K.lookup c = some ⟨.type "code", d, .fields vs, sl⟩) (h11 : vs[11]? = some (.ref P)) {x18 : Str} {t18 t7 t10 : Tok} {x7 x10 : Int} {x9 : Bool} (h18 : vs.getD 18 .none = .str x18 t18)
    (h7 : vs.getD 7 .none = .int x7 t7) (h9 : vs.getD 9 .none = .bool x9) (h10 : vs.getD 10 .none = .int x10 t10) (ne : (c != P) = true) : PySem.W.codeHdIn K c P = true := by
  unfold PySem.W.codeHdIn
  simp only [h, h11, h18, h7, h9, h10, ne]
  simp
theorem all_mk {P : Program} {cL : Addr} {K : PySem.W.Frag} {h : Heap} {mg : Str → Option Value} {fa C : Addr} (X : K.In h) (G : h.Ns mainGlobals mg) (hfa : mg "law" = some (.ref fa))
    {f1 : Addr} {od1 an1 : Option Addr} {sl1 : Array (Option Value)} {oc1 kV1 dc1 pm1 cd1 ct1 : Value} {f2 : Addr} {od2 an2 : Option Addr} {sl2 : Array (Option Value)} {oc2 kV2 dc2 pm2 cd2 ct2 : Value} {f3 : Addr} {od3 an3 : Option Addr} {sl3 : Array (Option Value)} {oc3 kV3 dc3 pm3 cd3 ct3 : Value} {f4 : Addr} {od4 an4 : Option Addr} {sl4 : Array (Option Value)} {oc4 kV4 dc4 pm4 cd4 ct4 : Value} {f5 : Addr} {od5 an5 : Option Addr} {sl5 : Array (Option Value)} {oc5 kV5 dc5 pm5 cd5 ct5 : Value} {f6 : Addr} {od6 an6 : Option Addr} {sl6 : Array (Option Value)} {oc6 kV6 dc6 pm6 cd6 ct6 : Value} {f7 : Addr} {od7 an7 : Option Addr} {sl7 : Array (Option Value)} {oc7 kV7 dc7 pm7 cd7 ct7 : Value} {f8 : Addr} {od8 an8 : Option Addr} {sl8 : Array (Option Value)} {oc8 kV8 dc8 pm8 cd8 ct8 : Value} {f9 : Addr} {od9 an9 : Option Addr} {sl9 : Array (Option Value)} {oc9 kV9 dc9 pm9 cd9 ct9 : Value} {rest9 : List Value} {p9 : Addr} {f10 : Addr} {od10 an10 : Option Addr} {sl10 : Array (Option Value)} {oc10 kV10 dc10 pm10 cd10 ct10 : Value} {rest10 : List Value} {p10 : Addr} {f11 : Addr} {od11 an11 : Option Addr} {sl11 : Array (Option Value)} {oc11 kV11 dc11 pm11 cd11 ct11 : Value} {f12 : Addr} {od12 an12 : Option Addr} {sl12 : Array (Option Value)} {oc12 kV12 dc12 pm12 cd12 ct12 : Value} {f13 : Addr} {od13 an13 : Option Addr} {sl13 : Array (Option Value)} {oc13 kV13 dc13 pm13 cd13 ct13 : Value} {f14 : Addr} {od14 an14 : Option Addr} {sl14 : Array (Option Value)} {oc14 kV14 dc14 pm14 cd14 ct14 : Value} {f15 : Addr} {od15 an15 : Option Addr} {sl15 : Array (Option Value)} {oc15 kV15 dc15 pm15 cd15 ct15 : Value} {f16 : Addr} {od16 an16 : Option Addr} {sl16 : Array (Option Value)} {oc16 kV16 dc16 pm16 cd16 ct16 : Value} {f17 : Addr} {od17 an17 : Option Addr} {sl17 : Array (Option Value)} {oc17 kV17 dc17 pm17 cd17 ct17 : Value} {f18 : Addr} {od18 an18 : Option Addr} {sl18 : Array (Option Value)} {oc18 kV18 dc18 pm18 cd18 ct18 : Value} {f19 : Addr} {od19 an19 : Option Addr} {sl19 : Array (Option Value)} {oc19 kV19 dc19 pm19 cd19 ct19 : Value} {f20 : Addr} {od20 an20 : Option Addr} {sl20 : Array (Option Value)} {oc20 kV20 dc20 pm20 cd20 ct20 : Value} {f21 : Addr} {od21 an21 : Option Addr} {sl21 : Array (Option Value)} {oc21 kV21 dc21 pm21 cd21 ct21 : Value} {f22 : Addr} {od22 an22 : Option Addr} {sl22 : Array (Option Value)} {oc22 kV22 dc22 pm22 cd22 ct22 : Value} {f23 : Addr} {od23 an23 : Option Addr} {sl23 : Array (Option Value)} {oc23 kV23 dc23 pm23 cd23 ct23 : Value} {f24 : Addr} {od24 an24 : Option Addr} {sl24 : Array (Option Value)} {oc24 kV24 dc24 pm24 cd24 ct24 : Value} {f25 : Addr} {od25 an25 : Option Addr} {sl25 : Array (Option Value)} {oc25 kV25 dc25 pm25 cd25 ct25 : Value} {f26 : Addr} {od26 an26 : Option Addr} {sl26 : Array (Option Value)} {oc26 kV26 dc26 pm26 cd26 ct26 : Value} {f27 : Addr} {od27 an27 : Option Addr} {sl27 : Array (Option Value)} {oc27 kV27 dc27 pm27 cd27 ct27 : Value} {f28 : Addr} {od28 an28 : Option Addr} {sl28 : Array (Option Value)} {oc28 kV28 dc28 pm28 cd28 ct28 : Value} {f29 : Addr} {od29 an29 : Option Addr} {sl29 : Array (Option Value)} {oc29 kV29 dc29 pm29 cd29 ct29 : Value} {f30 : Addr} {od30 an30 : Option Addr} {sl30 : Array (Option Value)} {oc30 kV30 dc30 pm30 cd30 ct30 : Value} {f31 : Addr} {od31 an31 : Option Addr} {sl31 : Array (Option Value)} {oc31 kV31 dc31 pm31 cd31 ct31 : Value} {f32 : Addr} {od32 an32 : Option Addr} {sl32 : Array (Option Value)} {oc32 kV32 dc32 pm32 cd32 ct32 : Value} {f33 : Addr} {od33 an33 : Option Addr} {sl33 : Array (Option Value)} {oc33 kV33 dc33 pm33 cd33 ct33 : Value} {f34 : Addr} {od34 an34 : Option Addr} {sl34 : Array (Option Value)} {oc34 kV34 dc34 pm34 cd34 ct34 : Value} {f35 : Addr} {od35 an35 : Option Addr} {sl35 : Array (Option Value)} {oc35 kV35 dc35 pm35 cd35 ct35 : Value} {f36 : Addr} {od36 an36 : Option Addr} {sl36 : Array (Option Value)} {oc36 kV36 dc36 pm36 ct36 : Value} {XBadLetters : Addr} {XBadValue : Addr} {tkSIGNS : Tok} {tkMOST_STATES : Tok} {tkMOST_KEPT : Tok}
    (aC : PySem.W.nsIn K mainGlobals "Machine" = some (some (.ref C)))
    (a1 : PySem.W.nsIn K mainGlobals "is_whole" = some (some (.ref f1)))
    (l1 : K.lookup f1 = some ⟨oc1, od1, .func (PySem.W.fnOf "is_whole" "is_whole" (defArgs s_is_whole) (defBody s_is_whole) (defScope s_is_whole) .none kV1 dc1 pm1 an1 cd1 ct1), sl1⟩) (c1 : PySem.W.codeIn K cd1 "is_whole" = true) (k1 : PySem.W.keepIn K (.ref f1) = true)
    (a2 : PySem.W.nsIn K mainGlobals "is_letters" = some (some (.ref f2)))
    (l2 : K.lookup f2 = some ⟨oc2, od2, .func (PySem.W.fnOf "is_letters" "is_letters" (defArgs s_is_letters) (defBody s_is_letters) (defScope s_is_letters) .none kV2 dc2 pm2 an2 cd2 ct2), sl2⟩) (c2 : PySem.W.codeIn K cd2 "is_letters" = true) (k2 : PySem.W.keepIn K (.ref f2) = true)
    (a3 : PySem.W.nsIn K mainGlobals "is_value" = some (some (.ref f3)))
    (l3 : K.lookup f3 = some ⟨oc3, od3, .func (PySem.W.fnOf "is_value" "is_value" (defArgs s_is_value) (defBody s_is_value) (defScope s_is_value) .none kV3 dc3 pm3 an3 cd3 ct3), sl3⟩) (c3 : PySem.W.codeIn K cd3 "is_value" = true) (k3 : PySem.W.keepIn K (.ref f3) = true)
    (a4 : PySem.W.nsIn K mainGlobals "check_letters" = some (some (.ref f4)))
    (l4 : K.lookup f4 = some ⟨oc4, od4, .func (PySem.W.fnOf "check_letters" "check_letters" (defArgs s_check_letters) (defBody s_check_letters) (defScope s_check_letters) .none kV4 dc4 pm4 an4 cd4 ct4), sl4⟩) (c4 : PySem.W.codeIn K cd4 "check_letters" = true) (k4 : PySem.W.keepIn K (.ref f4) = true)
    (a5 : PySem.W.nsIn K mainGlobals "check_value" = some (some (.ref f5)))
    (l5 : K.lookup f5 = some ⟨oc5, od5, .func (PySem.W.fnOf "check_value" "check_value" (defArgs s_check_value) (defBody s_check_value) (defScope s_check_value) .none kV5 dc5 pm5 an5 cd5 ct5), sl5⟩) (c5 : PySem.W.codeIn K cd5 "check_value" = true) (k5 : PySem.W.keepIn K (.ref f5) = true)
    (a6 : PySem.W.findIn K (.ref C) "__init__" = some (some (.ref f6))) (i6 : PySem.W.isFn K (.ref f6) = true)
    (l6 : K.lookup f6 = some ⟨oc6, od6, .func (PySem.W.fnOf "__init__" "Machine.__init__" (defArgs s_Machine_init) (defBody s_Machine_init) (defScope s_Machine_init) .none kV6 dc6 pm6 an6 cd6 ct6), sl6⟩) (c6 : PySem.W.codeIn K cd6 "Machine.__init__" = true) (k6 : PySem.W.keepIn K (.ref f6) = true)
    (a7 : PySem.W.findIn K (.ref C) "__eq__" = some (some (.ref f7))) (i7 : PySem.W.isFn K (.ref f7) = true)
    (l7 : K.lookup f7 = some ⟨oc7, od7, .func (PySem.W.fnOf "__eq__" "Machine.__eq__" (defArgs s_Machine_eq) (defBody s_Machine_eq) (defScope s_Machine_eq) .none kV7 dc7 pm7 an7 cd7 ct7), sl7⟩) (c7 : PySem.W.codeIn K cd7 "Machine.__eq__" = true) (k7 : PySem.W.keepIn K (.ref f7) = true)
    (a8 : PySem.W.findIn K (.ref C) "__len__" = some (some (.ref f8))) (i8 : PySem.W.isFn K (.ref f8) = true)
    (l8 : K.lookup f8 = some ⟨oc8, od8, .func (PySem.W.fnOf "__len__" "Machine.__len__" (defArgs s_Machine_len) (defBody s_Machine_len) (defScope s_Machine_len) .none kV8 dc8 pm8 an8 cd8 ct8), sl8⟩) (c8 : PySem.W.codeIn K cd8 "Machine.__len__" = true) (k8 : PySem.W.keepIn K (.ref f8) = true)
    (a9 : PySem.W.findIn K (.ref C) "letters" = some (some (.ref p9))) (ag9 : PySem.W.specialIn K (.ref p9) "__get__" = some (some (.builtin "property.__get__"))) (at9 : PySem.W.takesIn K (.ref p9) = some true) (ar9 : PySem.W.recIn K p9 "property" = some (.ref f9 :: rest9))
    (l9 : K.lookup f9 = some ⟨oc9, od9, .func (PySem.W.fnOf "letters" "Machine.letters" (defArgs s_Machine_letters) (defBody s_Machine_letters) (defScope s_Machine_letters) .none kV9 dc9 pm9 an9 cd9 ct9), sl9⟩) (c9 : PySem.W.codeIn K cd9 "Machine.letters" = true) (k9 : PySem.W.keepIn K (.ref f9) = true)
    (a10 : PySem.W.findIn K (.ref C) "rows" = some (some (.ref p10))) (ag10 : PySem.W.specialIn K (.ref p10) "__get__" = some (some (.builtin "property.__get__"))) (at10 : PySem.W.takesIn K (.ref p10) = some true) (ar10 : PySem.W.recIn K p10 "property" = some (.ref f10 :: rest10))
    (l10 : K.lookup f10 = some ⟨oc10, od10, .func (PySem.W.fnOf "rows" "Machine.rows" (defArgs s_Machine_rows) (defBody s_Machine_rows) (defScope s_Machine_rows) .none kV10 dc10 pm10 an10 cd10 ct10), sl10⟩) (c10 : PySem.W.codeIn K cd10 "Machine.rows" = true) (k10 : PySem.W.keepIn K (.ref f10) = true)
    (a11 : PySem.W.findIn K (.ref C) "turn" = some (some (.ref f11))) (i11 : PySem.W.isFn K (.ref f11) = true)
    (l11 : K.lookup f11 = some ⟨oc11, od11, .func (PySem.W.fnOf "turn" "Machine.turn" (defArgs s_Machine_turn) (defBody s_Machine_turn) (defScope s_Machine_turn) .none kV11 dc11 pm11 an11 cd11 ct11), sl11⟩) (c11 : PySem.W.codeIn K cd11 "Machine.turn" = true) (k11 : PySem.W.keepIn K (.ref f11) = true)
    (a12 : PySem.W.findIn K (.ref C) "made" = some (some (.ref f12))) (i12 : PySem.W.isFn K (.ref f12) = true)
    (l12 : K.lookup f12 = some ⟨oc12, od12, .func (PySem.W.fnOf "made" "Machine.made" (defArgs s_Machine_made) (defBody s_Machine_made) (defScope s_Machine_made) .none kV12 dc12 pm12 an12 cd12 ct12), sl12⟩) (c12 : PySem.W.codeIn K cd12 "Machine.made" = true) (k12 : PySem.W.keepIn K (.ref f12) = true)
    (a13 : PySem.W.findIn K (.ref C) "state_after" = some (some (.ref f13))) (i13 : PySem.W.isFn K (.ref f13) = true)
    (l13 : K.lookup f13 = some ⟨oc13, od13, .func (PySem.W.fnOf "state_after" "Machine.state_after" (defArgs s_Machine_state_after) (defBody s_Machine_state_after) (defScope s_Machine_state_after) .none kV13 dc13 pm13 an13 cd13 ct13), sl13⟩) (c13 : PySem.W.codeIn K cd13 "Machine.state_after" = true) (k13 : PySem.W.keepIn K (.ref f13) = true)
    (a14 : PySem.W.findIn K (.ref C) "_after" = some (some (.ref f14))) (i14 : PySem.W.isFn K (.ref f14) = true)
    (l14 : K.lookup f14 = some ⟨oc14, od14, .func (PySem.W.fnOf "_after" "Machine._after" (defArgs s_Machine__after) (defBody s_Machine__after) (defScope s_Machine__after) .none kV14 dc14 pm14 an14 cd14 ct14), sl14⟩) (c14 : PySem.W.codeIn K cd14 "Machine._after" = true) (k14 : PySem.W.keepIn K (.ref f14) = true)
    (a15 : PySem.W.nsIn K mainGlobals "check_rows" = some (some (.ref f15)))
    (l15 : K.lookup f15 = some ⟨oc15, od15, .func (PySem.W.fnOf "check_rows" "check_rows" (defArgs s_check_rows) (defBody s_check_rows) (defScope s_check_rows) .none kV15 dc15 pm15 an15 cd15 ct15), sl15⟩) (c15 : PySem.W.codeIn K cd15 "check_rows" = true) (k15 : PySem.W.keepIn K (.ref f15) = true)
    (a16 : PySem.W.nsIn K mainGlobals "is_row" = some (some (.ref f16)))
    (l16 : K.lookup f16 = some ⟨oc16, od16, .func (PySem.W.fnOf "is_row" "is_row" (defArgs s_is_row) (defBody s_is_row) (defScope s_is_row) .none kV16 dc16 pm16 an16 cd16 ct16), sl16⟩) (c16 : PySem.W.codeIn K cd16 "is_row" = true) (k16 : PySem.W.keepIn K (.ref f16) = true)
    (a17 : PySem.W.nsIn K mainGlobals "is_turn" = some (some (.ref f17)))
    (l17 : K.lookup f17 = some ⟨oc17, od17, .func (PySem.W.fnOf "is_turn" "is_turn" (defArgs s_is_turn) (defBody s_is_turn) (defScope s_is_turn) .none kV17 dc17 pm17 an17 cd17 ct17), sl17⟩) (c17 : PySem.W.codeIn K cd17 "is_turn" = true) (k17 : PySem.W.keepIn K (.ref f17) = true)
    (a18 : PySem.W.nsIn K mainGlobals "copying_row" = some (some (.ref f18)))
    (l18 : K.lookup f18 = some ⟨oc18, od18, .func (PySem.W.fnOf "copying_row" "copying_row" (defArgs s_copying_row) (defBody s_copying_row) (defScope s_copying_row) .none kV18 dc18 pm18 an18 cd18 ct18), sl18⟩) (c18 : PySem.W.codeIn K cd18 "copying_row" = true) (k18 : PySem.W.keepIn K (.ref f18) = true)
    (a19 : PySem.W.nsIn K mainGlobals "plain" = some (some (.ref f19)))
    (l19 : K.lookup f19 = some ⟨oc19, od19, .func (PySem.W.fnOf "plain" "plain" (defArgs s_plain) (defBody s_plain) (defScope s_plain) .none kV19 dc19 pm19 an19 cd19 ct19), sl19⟩) (c19 : PySem.W.codeIn K cd19 "plain" = true) (k19 : PySem.W.keepIn K (.ref f19) = true)
    (a20 : PySem.W.nsIn K mainGlobals "mapped" = some (some (.ref f20)))
    (l20 : K.lookup f20 = some ⟨oc20, od20, .func (PySem.W.fnOf "mapped" "mapped" (defArgs s_mapped) (defBody s_mapped) (defScope s_mapped) .none kV20 dc20 pm20 an20 cd20 ct20), sl20⟩) (c20 : PySem.W.codeIn K cd20 "mapped" = true) (k20 : PySem.W.keepIn K (.ref f20) = true)
    (a21 : PySem.W.nsIn K mainGlobals "cut" = some (some (.ref f21)))
    (l21 : K.lookup f21 = some ⟨oc21, od21, .func (PySem.W.fnOf "cut" "cut" (defArgs s_cut) (defBody s_cut) (defScope s_cut) .none kV21 dc21 pm21 an21 cd21 ct21), sl21⟩) (c21 : PySem.W.codeIn K cd21 "cut" = true) (k21 : PySem.W.keepIn K (.ref f21) = true)
    (a22 : PySem.W.nsIn K mainGlobals "stripped" = some (some (.ref f22)))
    (l22 : K.lookup f22 = some ⟨oc22, od22, .func (PySem.W.fnOf "stripped" "stripped" (defArgs s_stripped) (defBody s_stripped) (defScope s_stripped) .none kV22 dc22 pm22 an22 cd22 ct22), sl22⟩) (c22 : PySem.W.codeIn K cd22 "stripped" = true) (k22 : PySem.W.keepIn K (.ref f22) = true)
    (a23 : PySem.W.nsIn K mainGlobals "squeezed" = some (some (.ref f23)))
    (l23 : K.lookup f23 = some ⟨oc23, od23, .func (PySem.W.fnOf "squeezed" "squeezed" (defArgs s_squeezed) (defBody s_squeezed) (defScope s_squeezed) .none kV23 dc23 pm23 an23 cd23 ct23), sl23⟩) (c23 : PySem.W.codeIn K cd23 "squeezed" = true) (k23 : PySem.W.keepIn K (.ref f23) = true)
    (a24 : PySem.W.nsIn K mainGlobals "copying_turns" = some (some (.ref f24)))
    (l24 : K.lookup f24 = some ⟨oc24, od24, .func (PySem.W.fnOf "copying_turns" "copying_turns" (defArgs s_copying_turns) (defBody s_copying_turns) (defScope s_copying_turns) .none kV24 dc24 pm24 an24 cd24 ct24), sl24⟩) (c24 : PySem.W.codeIn K cd24 "copying_turns" = true) (k24 : PySem.W.keepIn K (.ref f24) = true)
    (a25 : PySem.W.nsIn K mainGlobals "compare" = some (some (.ref f25)))
    (l25 : K.lookup f25 = some ⟨oc25, od25, .func (PySem.W.fnOf "compare" "compare" (defArgs s_compare) (defBody s_compare) (defScope s_compare) .none kV25 dc25 pm25 an25 cd25 ct25), sl25⟩) (c25 : PySem.W.codeIn K cd25 "compare" = true) (k25 : PySem.W.keepIn K (.ref f25) = true)
    (a26 : PySem.W.nsIn K mainGlobals "_law_number" = some (some (.ref f26)))
    (l26 : K.lookup f26 = some ⟨oc26, od26, .func (PySem.W.fnOf "_law_number" "_law_number" (defArgs s_law_number) (defBody s_law_number) (defScope s_law_number) .none kV26 dc26 pm26 an26 cd26 ct26), sl26⟩) (c26 : PySem.W.codeIn K cd26 "_law_number" = true) (k26 : PySem.W.keepIn K (.ref f26) = true)
    (a27 : PySem.W.nsIn K mainGlobals "_law_letters" = some (some (.ref f27)))
    (l27 : K.lookup f27 = some ⟨oc27, od27, .func (PySem.W.fnOf "_law_letters" "_law_letters" (defArgs s_law_letters) (defBody s_law_letters) (defScope s_law_letters) .none kV27 dc27 pm27 an27 cd27 ct27), sl27⟩) (c27 : PySem.W.codeIn K cd27 "_law_letters" = true) (k27 : PySem.W.keepIn K (.ref f27) = true)
    (a28 : PySem.W.nsIn K mainGlobals "_law_rows" = some (some (.ref f28)))
    (l28 : K.lookup f28 = some ⟨oc28, od28, .func (PySem.W.fnOf "_law_rows" "_law_rows" (defArgs s_law_rows) (defBody s_law_rows) (defScope s_law_rows) .none kV28 dc28 pm28 an28 cd28 ct28), sl28⟩) (c28 : PySem.W.codeIn K cd28 "_law_rows" = true) (k28 : PySem.W.keepIn K (.ref f28) = true)
    (a29 : PySem.W.nsIn K mainGlobals "_law_value" = some (some (.ref f29)))
    (l29 : K.lookup f29 = some ⟨oc29, od29, .func (PySem.W.fnOf "_law_value" "_law_value" (defArgs s_law_value) (defBody s_law_value) (defScope s_law_value) .none kV29 dc29 pm29 an29 cd29 ct29), sl29⟩) (c29 : PySem.W.codeIn K cd29 "_law_value" = true) (k29 : PySem.W.keepIn K (.ref f29) = true)
    (a30 : PySem.W.nsIn K mainGlobals "_law_turn" = some (some (.ref f30)))
    (l30 : K.lookup f30 = some ⟨oc30, od30, .func (PySem.W.fnOf "_law_turn" "_law_turn" (defArgs s_law_turn) (defBody s_law_turn) (defScope s_law_turn) .none kV30 dc30 pm30 an30 cd30 ct30), sl30⟩) (c30 : PySem.W.codeIn K cd30 "_law_turn" = true) (k30 : PySem.W.keepIn K (.ref f30) = true)
    (a31 : PySem.W.nsIn K mainGlobals "_law_ends" = some (some (.ref f31)))
    (l31 : K.lookup f31 = some ⟨oc31, od31, .func (PySem.W.fnOf "_law_ends" "_law_ends" (defArgs s_law_ends) (defBody s_law_ends) (defScope s_law_ends) .none kV31 dc31 pm31 an31 cd31 ct31), sl31⟩) (c31 : PySem.W.codeIn K cd31 "_law_ends" = true) (k31 : PySem.W.keepIn K (.ref f31) = true)
    (a32 : PySem.W.nsIn K mainGlobals "_law_raised" = some (some (.ref f32)))
    (l32 : K.lookup f32 = some ⟨oc32, od32, .func (PySem.W.fnOf "_law_raised" "_law_raised" (defArgs s_law_raised) (defBody s_law_raised) (defScope s_law_raised) .none kV32 dc32 pm32 an32 cd32 ct32), sl32⟩) (c32 : PySem.W.codeIn K cd32 "_law_raised" = true) (k32 : PySem.W.keepIn K (.ref f32) = true)
    (a33 : PySem.W.nsIn K mainGlobals "_law_ready_right" = some (some (.ref f33)))
    (l33 : K.lookup f33 = some ⟨oc33, od33, .func (PySem.W.fnOf "_law_ready_right" "_law_ready_right" (defArgs s_law_ready_right) (defBody s_law_ready_right) (defScope s_law_ready_right) .none kV33 dc33 pm33 an33 cd33 ct33), sl33⟩) (c33 : PySem.W.codeIn K cd33 "_law_ready_right" = true) (k33 : PySem.W.keepIn K (.ref f33) = true)
    (a34 : PySem.W.nsIn K mainGlobals "_law_bent" = some (some (.ref f34)))
    (l34 : K.lookup f34 = some ⟨oc34, od34, .func (PySem.W.fnOf "_law_bent" "_law_bent" (defArgs s_law_bent) (defBody s_law_bent) (defScope s_law_bent) .none kV34 dc34 pm34 an34 cd34 ct34), sl34⟩) (c34 : PySem.W.codeIn K cd34 "_law_bent" = true) (k34 : PySem.W.keepIn K (.ref f34) = true)
    (a35 : PySem.W.nsIn K mainGlobals "_law_order_right" = some (some (.ref f35)))
    (l35 : K.lookup f35 = some ⟨oc35, od35, .func (PySem.W.fnOf "_law_order_right" "_law_order_right" (defArgs s_law_order_right) (defBody s_law_order_right) (defScope s_law_order_right) .none kV35 dc35 pm35 an35 cd35 ct35), sl35⟩) (c35 : PySem.W.codeIn K cd35 "_law_order_right" = true) (k35 : PySem.W.keepIn K (.ref f35) = true)
    (a36 : PySem.W.nsIn K mainGlobals "law" = some (some (.ref f36)))
    (l36 : K.lookup f36 = some ⟨oc36, od36, .func (PySem.W.fnOf "law" "law" (defArgs s_law) (defBody s_law) (defScope s_law) .none kV36 dc36 pm36 an36 (.ref cL) ct36), sl36⟩) (c36 : PySem.W.codeIn K (.ref cL) "law" = true) (k36 : PySem.W.keepIn K (.ref f36) = true)
    (pg : PySem.W.plainGet K C Str.empty = true) (hd : PySem.W.hasDictIn K C = true) (po : PySem.W.plainOver K C = true) (sa : PySem.W.findIn K (.ref C) "__setattr__" = some (some (.builtin "object.__setattr__"))) (mk : PySem.W.makesIn K C = true) (kc : PySem.W.keepIn K (.ref C) = true) (iA : PySem.W.findIn K (.ref C) "__class__" = some (some (.builtin "object.__class__"))) (iN : PySem.W.specialIn K (.builtin "object.__class__") "__get__" = some (some (.builtin "getset_descriptor.__get__"))) (iT : PySem.W.takesIn K (.builtin "object.__class__") = some true) (iM : PySem.W.mroIn K C (.type "object") = some true) (ne : PySem.W.findIn K (.ref C) "__ne__" = some (some (.builtin "object.__ne__")))
    (na0 : PySem.W.findIn K (.ref C) "_letters" = some none)
    (na1 : PySem.W.findIn K (.ref C) "_rows" = some none)
    (xaBadLetters : PySem.W.nsIn K mainGlobals "BadLetters" = some (some (.ref XBadLetters))) (xxBadLetters : PySem.W.excIn K XBadLetters [.type "ValueError", .type "Exception", .type "BaseException", .type "object"] "ValueError.__new__" = true) (xkBadLetters : PySem.W.keepIn K (.ref XBadLetters) = true) (xbBadLetters : PySem.W.subIn K (.ref XBadLetters) (.type "BaseException") = some true) (xtBadLetters : PySem.W.typeIn K (.ref XBadLetters) = some (.type "type")) (xiBadLetters : PySem.W.isClsIn K XBadLetters = true) (xsBadLetters : PySem.W.subIn K (.ref XBadLetters) (.ref XBadLetters) = some true)
    (xaBadValue : PySem.W.nsIn K mainGlobals "BadValue" = some (some (.ref XBadValue))) (xxBadValue : PySem.W.excIn K XBadValue [.type "ValueError", .type "Exception", .type "BaseException", .type "object"] "ValueError.__new__" = true) (xkBadValue : PySem.W.keepIn K (.ref XBadValue) = true) (xbBadValue : PySem.W.subIn K (.ref XBadValue) (.type "BaseException") = some true) (xtBadValue : PySem.W.typeIn K (.ref XBadValue) = some (.type "type")) (xiBadValue : PySem.W.isClsIn K XBadValue = true) (xsBadValue : PySem.W.subIn K (.ref XBadValue) (.ref XBadValue) = some true)
    (ccSIGNS : PySem.W.nsIn K mainGlobals "SIGNS" = some (some (.str "ABCDEFGHIJKLMNOPQRSTUVWXYZ_abcdefghijklmnopqrstuvwxyz" tkSIGNS)))
    (ccMOST_STATES : PySem.W.nsIn K mainGlobals "MOST_STATES" = some (some (.int 6 tkMOST_STATES)))
    (ccMOST_KEPT : PySem.W.nsIn K mainGlobals "MOST_KEPT" = some (some (.int 5 tkMOST_KEPT)))
    (zall : PySem.W.nsIn K mainGlobals "all" = some none)
    (zbool : PySem.W.nsIn K mainGlobals "bool" = some none)
    (zcall : PySem.W.nsIn K mainGlobals "call" = some none)
    (zenumerate : PySem.W.nsIn K mainGlobals "enumerate" = some none)
    (zint : PySem.W.nsIn K mainGlobals "int" = some none)
    (zisinstance : PySem.W.nsIn K mainGlobals "isinstance" = some none)
    (zlen : PySem.W.nsIn K mainGlobals "len" = some none)
    (zlist : PySem.W.nsIn K mainGlobals "list" = some none)
    (zmin : PySem.W.nsIn K mainGlobals "min" = some none)
    (zrange : PySem.W.nsIn K mainGlobals "range" = some none)
    (zstr : PySem.W.nsIn K mainGlobals "str" = some none)
    (zsum : PySem.W.nsIn K mainGlobals "sum" = some none)
    (zsuper : PySem.W.nsIn K mainGlobals "super" = some none)
    (ztuple : PySem.W.nsIn K mainGlobals "tuple" = some none)
    {XB fB cdaB ccB NB FE tL : Addr} {nmB qB fileB : Str} {bsB bmB rB : List Value} {snB : List Str} {subB : List Value} {abB : Bool} {colB : Option Bool} {ddB odB anB cc2B ce2B dL : Option Addr} {k0B k1B k2B k3B k5B : Option Value} {ocB kVB dcB pmB ctB cc1B ce1B : Value} {slB cc3B ce3B slL : Array (Option Value)} {vsB vsL : Array Value} {tfB t18 t7 t10 : Tok} {x18 : Str} {x7 x10 : Int} {x9 : Bool} {cdB cdF cdL cdV : ClassData}
    (bA : PySem.W.nsIn K mainGlobals "BadMachine" = some (some (.ref XB)))
    (bL : K.lookup XB = some (PySem.excClassObj nmB qB XB NB bsB bmB true snB subB abB colB ddB k0B k1B k2B k3B k5B "ValueError.__new__"))
    (bR : PySem.HandSPX.refsVE bmB = true)
    (bS : PySem.W.findIn K (.ref XB) "__setattr__" = some (some (.builtin "object.__setattr__")))
    (bE : PySem.W.subIn K (.ref XB) (.type "BaseException") = some true) (bT : PySem.W.typeIn K (.ref XB) = some (.type "type")) (bK : PySem.W.keepIn K (.ref XB) = true)
    (bG : PySem.W.findIn K (.ref XB) "__getattribute__" = some (some (.builtin "BaseException.__getattribute__"))) (bH : PySem.W.findIn K (.ref XB) "__getattr__" = some none) (bD : PySem.W.hasDictIn K XB = true) (bW : PySem.W.findIn K (.ref XB) "row" = some none)
    (bI : PySem.W.findIn K (.ref XB) "__init__" = some (some (.ref fB))) (bF : PySem.W.typeIn K (.ref fB) = some (.type "function"))
    (bN : K.lookup fB = some ⟨ocB, odB, .func (PySem.W.ksFn "__init__" "BadMachine.__init__" (defArgs s_BadMachine_init) (defBody s_BadMachine_init) (defScope s_BadMachine_init) .none kVB dcB pmB anB (.ref cdaB) ctB ccB), slB⟩)
    (bC : K.lookup cdaB = some ⟨cc1B, cc2B, .fields vsB, cc3B⟩) (b2 : vsB[2]? = some (.str fileB tfB)) (bP : ((P.main.file : Str) == fileB) = true) (bO : PySem.W.codeIn K (.ref cdaB) "BadMachine.__init__" = true)
    (bQ : K.lookup ccB = some ⟨ce1B, ce2B, .cell (some (.ref XB)), ce3B⟩) (bU : PySem.W.clsIn K XB = some cdB) (bM : PySem.W.mroIn K XB (.ref XB) = some true) (bV : cdB.mro = .ref XB :: .ref FE :: rB) (bX : PySem.W.clsIn K FE = some cdF) (bY : cdF.mro = .ref FE :: rB)
    (bZ : PySem.W.findIn K (.ref FE) "__init__" = some (some (.builtin "ValueError.__init__"))) (b3 : PySem.W.subIn K (.ref XB) (.type "ValueError") = some true) (b4 : PySem.W.nsIn K PySem.cStatics "thirdparty.any" = some none) (b5 : (P.main.scope.names.lookup ("super" : Str)).isSome = false)
    (b6 : PySem.W.subIn K (.ref XB) (.ref XB) = some true) (b7 : PySem.W.subIn K (.ref XBadLetters) (.ref XB) = some false) (b8 : PySem.W.subIn K (.ref XBadValue) (.ref XB) = some false) (b9 : PySem.W.subIn K (.ref XBadValue) (.ref XBadLetters) = some false)
    (bLc : PySem.W.clsIn K XBadLetters = some cdL) (bVc : PySem.W.clsIn K XBadValue = some cdV)
    (hL : K.lookup cL = some ⟨.type "code", dL, .fields vsL, slL⟩) (h11 : vsL[11]? = some (.ref tL)) (h18 : vsL.getD 18 .none = .str x18 t18) (h7 : vsL.getD 7 .none = .int x7 t7) (h9 : vsL.getD 9 .none = .bool x9) (h10 : vsL.getD 10 .none = .int x10 t10) (hne : (cL != tL) = true) (hno : K.lookup tL = none)
    : ∃ A : Ad, Txt P K mg A ∧ A.a_law = fa ∧ LawCode K A := by
  have e := hfa.symm.trans (PySem.W.mg_of X G a36)
  cases e
  exact ⟨{
    a_is_whole := f1
    d_is_whole := PySem.W.fnOf "is_whole" "is_whole" (defArgs s_is_whole) (defBody s_is_whole) (defScope s_is_whole) .none kV1 dc1 pm1 an1 cd1 ct1
    a_is_letters := f2
    d_is_letters := PySem.W.fnOf "is_letters" "is_letters" (defArgs s_is_letters) (defBody s_is_letters) (defScope s_is_letters) .none kV2 dc2 pm2 an2 cd2 ct2
    a_is_value := f3
    d_is_value := PySem.W.fnOf "is_value" "is_value" (defArgs s_is_value) (defBody s_is_value) (defScope s_is_value) .none kV3 dc3 pm3 an3 cd3 ct3
    a_check_letters := f4
    d_check_letters := PySem.W.fnOf "check_letters" "check_letters" (defArgs s_check_letters) (defBody s_check_letters) (defScope s_check_letters) .none kV4 dc4 pm4 an4 cd4 ct4
    a_check_value := f5
    d_check_value := PySem.W.fnOf "check_value" "check_value" (defArgs s_check_value) (defBody s_check_value) (defScope s_check_value) .none kV5 dc5 pm5 an5 cd5 ct5
    a_Machine_init := f6
    d_Machine_init := PySem.W.fnOf "__init__" "Machine.__init__" (defArgs s_Machine_init) (defBody s_Machine_init) (defScope s_Machine_init) .none kV6 dc6 pm6 an6 cd6 ct6
    a_Machine_eq := f7
    d_Machine_eq := PySem.W.fnOf "__eq__" "Machine.__eq__" (defArgs s_Machine_eq) (defBody s_Machine_eq) (defScope s_Machine_eq) .none kV7 dc7 pm7 an7 cd7 ct7
    a_Machine_len := f8
    d_Machine_len := PySem.W.fnOf "__len__" "Machine.__len__" (defArgs s_Machine_len) (defBody s_Machine_len) (defScope s_Machine_len) .none kV8 dc8 pm8 an8 cd8 ct8
    a_Machine_letters := f9
    d_Machine_letters := PySem.W.fnOf "letters" "Machine.letters" (defArgs s_Machine_letters) (defBody s_Machine_letters) (defScope s_Machine_letters) .none kV9 dc9 pm9 an9 cd9 ct9
    a_Machine_rows := f10
    d_Machine_rows := PySem.W.fnOf "rows" "Machine.rows" (defArgs s_Machine_rows) (defBody s_Machine_rows) (defScope s_Machine_rows) .none kV10 dc10 pm10 an10 cd10 ct10
    a_Machine_turn := f11
    d_Machine_turn := PySem.W.fnOf "turn" "Machine.turn" (defArgs s_Machine_turn) (defBody s_Machine_turn) (defScope s_Machine_turn) .none kV11 dc11 pm11 an11 cd11 ct11
    a_Machine_made := f12
    d_Machine_made := PySem.W.fnOf "made" "Machine.made" (defArgs s_Machine_made) (defBody s_Machine_made) (defScope s_Machine_made) .none kV12 dc12 pm12 an12 cd12 ct12
    a_Machine_state_after := f13
    d_Machine_state_after := PySem.W.fnOf "state_after" "Machine.state_after" (defArgs s_Machine_state_after) (defBody s_Machine_state_after) (defScope s_Machine_state_after) .none kV13 dc13 pm13 an13 cd13 ct13
    a_Machine__after := f14
    d_Machine__after := PySem.W.fnOf "_after" "Machine._after" (defArgs s_Machine__after) (defBody s_Machine__after) (defScope s_Machine__after) .none kV14 dc14 pm14 an14 cd14 ct14
    a_check_rows := f15
    d_check_rows := PySem.W.fnOf "check_rows" "check_rows" (defArgs s_check_rows) (defBody s_check_rows) (defScope s_check_rows) .none kV15 dc15 pm15 an15 cd15 ct15
    a_is_row := f16
    d_is_row := PySem.W.fnOf "is_row" "is_row" (defArgs s_is_row) (defBody s_is_row) (defScope s_is_row) .none kV16 dc16 pm16 an16 cd16 ct16
    a_is_turn := f17
    d_is_turn := PySem.W.fnOf "is_turn" "is_turn" (defArgs s_is_turn) (defBody s_is_turn) (defScope s_is_turn) .none kV17 dc17 pm17 an17 cd17 ct17
    a_copying_row := f18
    d_copying_row := PySem.W.fnOf "copying_row" "copying_row" (defArgs s_copying_row) (defBody s_copying_row) (defScope s_copying_row) .none kV18 dc18 pm18 an18 cd18 ct18
    a_plain := f19
    d_plain := PySem.W.fnOf "plain" "plain" (defArgs s_plain) (defBody s_plain) (defScope s_plain) .none kV19 dc19 pm19 an19 cd19 ct19
    a_mapped := f20
    d_mapped := PySem.W.fnOf "mapped" "mapped" (defArgs s_mapped) (defBody s_mapped) (defScope s_mapped) .none kV20 dc20 pm20 an20 cd20 ct20
    a_cut := f21
    d_cut := PySem.W.fnOf "cut" "cut" (defArgs s_cut) (defBody s_cut) (defScope s_cut) .none kV21 dc21 pm21 an21 cd21 ct21
    a_stripped := f22
    d_stripped := PySem.W.fnOf "stripped" "stripped" (defArgs s_stripped) (defBody s_stripped) (defScope s_stripped) .none kV22 dc22 pm22 an22 cd22 ct22
    a_squeezed := f23
    d_squeezed := PySem.W.fnOf "squeezed" "squeezed" (defArgs s_squeezed) (defBody s_squeezed) (defScope s_squeezed) .none kV23 dc23 pm23 an23 cd23 ct23
    a_copying_turns := f24
    d_copying_turns := PySem.W.fnOf "copying_turns" "copying_turns" (defArgs s_copying_turns) (defBody s_copying_turns) (defScope s_copying_turns) .none kV24 dc24 pm24 an24 cd24 ct24
    a_compare := f25
    d_compare := PySem.W.fnOf "compare" "compare" (defArgs s_compare) (defBody s_compare) (defScope s_compare) .none kV25 dc25 pm25 an25 cd25 ct25
    a_law_number := f26
    d_law_number := PySem.W.fnOf "_law_number" "_law_number" (defArgs s_law_number) (defBody s_law_number) (defScope s_law_number) .none kV26 dc26 pm26 an26 cd26 ct26
    a_law_letters := f27
    d_law_letters := PySem.W.fnOf "_law_letters" "_law_letters" (defArgs s_law_letters) (defBody s_law_letters) (defScope s_law_letters) .none kV27 dc27 pm27 an27 cd27 ct27
    a_law_rows := f28
    d_law_rows := PySem.W.fnOf "_law_rows" "_law_rows" (defArgs s_law_rows) (defBody s_law_rows) (defScope s_law_rows) .none kV28 dc28 pm28 an28 cd28 ct28
    a_law_value := f29
    d_law_value := PySem.W.fnOf "_law_value" "_law_value" (defArgs s_law_value) (defBody s_law_value) (defScope s_law_value) .none kV29 dc29 pm29 an29 cd29 ct29
    a_law_turn := f30
    d_law_turn := PySem.W.fnOf "_law_turn" "_law_turn" (defArgs s_law_turn) (defBody s_law_turn) (defScope s_law_turn) .none kV30 dc30 pm30 an30 cd30 ct30
    a_law_ends := f31
    d_law_ends := PySem.W.fnOf "_law_ends" "_law_ends" (defArgs s_law_ends) (defBody s_law_ends) (defScope s_law_ends) .none kV31 dc31 pm31 an31 cd31 ct31
    a_law_raised := f32
    d_law_raised := PySem.W.fnOf "_law_raised" "_law_raised" (defArgs s_law_raised) (defBody s_law_raised) (defScope s_law_raised) .none kV32 dc32 pm32 an32 cd32 ct32
    a_law_ready_right := f33
    d_law_ready_right := PySem.W.fnOf "_law_ready_right" "_law_ready_right" (defArgs s_law_ready_right) (defBody s_law_ready_right) (defScope s_law_ready_right) .none kV33 dc33 pm33 an33 cd33 ct33
    a_law_bent := f34
    d_law_bent := PySem.W.fnOf "_law_bent" "_law_bent" (defArgs s_law_bent) (defBody s_law_bent) (defScope s_law_bent) .none kV34 dc34 pm34 an34 cd34 ct34
    a_law_order_right := f35
    d_law_order_right := PySem.W.fnOf "_law_order_right" "_law_order_right" (defArgs s_law_order_right) (defBody s_law_order_right) (defScope s_law_order_right) .none kV35 dc35 pm35 an35 cd35 ct35
    a_law := fa
    d_law := PySem.W.fnOf "law" "law" (defArgs s_law) (defBody s_law) (defScope s_law) .none kV36 dc36 pm36 an36 (.ref cL) ct36
    C := C
    X_BadMachine := XB
    a_BadMachine_init := fB
    d_BadMachine_init := PySem.W.ksFn "__init__" "BadMachine.__init__" (defArgs s_BadMachine_init) (defBody s_BadMachine_init) (defScope s_BadMachine_init) .none kVB dcB pmB anB (.ref cdaB) ctB ccB
    cL := cL
    tL := tL
    pr_letters := p9
    pr_rows := p10
    X_BadLetters := XBadLetters
    X_BadValue := XBadValue
    t_SIGNS := tkSIGNS
    t_MOST_STATES := tkMOST_STATES
    t_MOST_KEPT := tkMOST_KEPT },
   {
    f_is_whole := ⟨fun_mk (st := s_is_whole) l1 c1 k1, PySem.W.mg_of X G a1, (fun_mk (st := s_is_whole) l1 c1 k1).binds (ps := ["thing"]) fun _ _ _ _ _ _ us hl => match us, hl with | [_], _ => rfl⟩
    f_is_letters := ⟨fun_mk (st := s_is_letters) l2 c2 k2, PySem.W.mg_of X G a2, (fun_mk (st := s_is_letters) l2 c2 k2).binds (ps := ["thing"]) fun _ _ _ _ _ _ us hl => match us, hl with | [_], _ => rfl⟩
    f_is_value := ⟨fun_mk (st := s_is_value) l3 c3 k3, PySem.W.mg_of X G a3, (fun_mk (st := s_is_value) l3 c3 k3).binds (ps := ["letters", "thing"]) fun _ _ _ _ _ _ us hl => match us, hl with | [_, _], _ => rfl⟩
    f_check_letters := ⟨fun_mk (st := s_check_letters) l4 c4 k4, PySem.W.mg_of X G a4, (fun_mk (st := s_check_letters) l4 c4 k4).binds (ps := ["letters"]) fun _ _ _ _ _ _ us hl => match us, hl with | [_], _ => rfl⟩
    f_check_value := ⟨fun_mk (st := s_check_value) l5 c5 k5, PySem.W.mg_of X G a5, (fun_mk (st := s_check_value) l5 c5 k5).binds (ps := ["letters", "value"]) fun _ _ _ _ _ _ us hl => match us, hl with | [_, _], _ => rfl⟩
    f_Machine_init := ⟨fun_mk (st := s_Machine_init) l6 c6 k6, (fun_mk (st := s_Machine_init) l6 c6 k6).binds (ps := ["self", "letters", "rows"]) fun _ _ _ _ _ _ us hl => match us, hl with | [_, _, _], _ => rfl⟩
    f_Machine_eq := ⟨fun_mk (st := s_Machine_eq) l7 c7 k7, (fun_mk (st := s_Machine_eq) l7 c7 k7).binds (ps := ["self", "other"]) fun _ _ _ _ _ _ us hl => match us, hl with | [_, _], _ => rfl⟩
    f_Machine_len := ⟨fun_mk (st := s_Machine_len) l8 c8 k8, (fun_mk (st := s_Machine_len) l8 c8 k8).binds (ps := ["self"]) fun _ _ _ _ _ _ us hl => match us, hl with | [_], _ => rfl⟩
    f_Machine_letters := ⟨fun_mk (st := s_Machine_letters) l9 c9 k9, (fun_mk (st := s_Machine_letters) l9 c9 k9).binds (ps := ["self"]) fun _ _ _ _ _ _ us hl => match us, hl with | [_], _ => rfl⟩
    f_Machine_rows := ⟨fun_mk (st := s_Machine_rows) l10 c10 k10, (fun_mk (st := s_Machine_rows) l10 c10 k10).binds (ps := ["self"]) fun _ _ _ _ _ _ us hl => match us, hl with | [_], _ => rfl⟩
    f_Machine_turn := ⟨fun_mk (st := s_Machine_turn) l11 c11 k11, (fun_mk (st := s_Machine_turn) l11 c11 k11).binds (ps := ["self", "state", "letter"]) fun _ _ _ _ _ _ us hl => match us, hl with | [_, _, _], _ => rfl⟩
    f_Machine_made := ⟨fun_mk (st := s_Machine_made) l12 c12 k12, (fun_mk (st := s_Machine_made) l12 c12 k12).binds (ps := ["self", "value"]) fun _ _ _ _ _ _ us hl => match us, hl with | [_, _], _ => rfl⟩
    f_Machine_state_after := ⟨fun_mk (st := s_Machine_state_after) l13 c13 k13, (fun_mk (st := s_Machine_state_after) l13 c13 k13).binds (ps := ["self", "value"]) fun _ _ _ _ _ _ us hl => match us, hl with | [_, _], _ => rfl⟩
    f_Machine__after := ⟨fun_mk (st := s_Machine__after) l14 c14 k14, (fun_mk (st := s_Machine__after) l14 c14 k14).binds (ps := ["self", "value"]) fun _ _ _ _ _ _ us hl => match us, hl with | [_, _], _ => rfl⟩
    f_check_rows := ⟨fun_mk (st := s_check_rows) l15 c15 k15, PySem.W.mg_of X G a15, (fun_mk (st := s_check_rows) l15 c15 k15).binds (ps := ["letters", "rows"]) fun _ _ _ _ _ _ us hl => match us, hl with | [_, _], _ => rfl⟩
    f_is_row := ⟨fun_mk (st := s_is_row) l16 c16 k16, PySem.W.mg_of X G a16, (fun_mk (st := s_is_row) l16 c16 k16).binds (ps := ["letters", "many", "row"]) fun _ _ _ _ _ _ us hl => match us, hl with | [_, _, _], _ => rfl⟩
    f_is_turn := ⟨fun_mk (st := s_is_turn) l17 c17 k17, PySem.W.mg_of X G a17, (fun_mk (st := s_is_turn) l17 c17 k17).binds (ps := ["letters", "many", "turn"]) fun _ _ _ _ _ _ us hl => match us, hl with | [_, _, _], _ => rfl⟩
    f_copying_row := ⟨fun_mk (st := s_copying_row) l18 c18 k18, PySem.W.mg_of X G a18, (fun_mk (st := s_copying_row) l18 c18 k18).binds (ps := ["letters", "state"]) fun _ _ _ _ _ _ us hl => match us, hl with | [_, _], _ => rfl⟩
    f_plain := ⟨fun_mk (st := s_plain) l19 c19 k19, PySem.W.mg_of X G a19, (fun_mk (st := s_plain) l19 c19 k19).binds (ps := ["letters"]) fun _ _ _ _ _ _ us hl => match us, hl with | [_], _ => rfl⟩
    f_mapped := ⟨fun_mk (st := s_mapped) l20 c20 k20, PySem.W.mg_of X G a20, (fun_mk (st := s_mapped) l20 c20 k20).binds (ps := ["letters", "outs"]) fun _ _ _ _ _ _ us hl => match us, hl with | [_, _], _ => rfl⟩
    f_cut := ⟨fun_mk (st := s_cut) l21 c21 k21, PySem.W.mg_of X G a21, (fun_mk (st := s_cut) l21 c21 k21).binds (ps := ["letters", "many"]) fun _ _ _ _ _ _ us hl => match us, hl with | [_, _], _ => rfl⟩
    f_stripped := ⟨fun_mk (st := s_stripped) l22 c22 k22, PySem.W.mg_of X G a22, (fun_mk (st := s_stripped) l22 c22 k22).binds (ps := ["letters", "some"]) fun _ _ _ _ _ _ us hl => match us, hl with | [_, _], _ => rfl⟩
    f_squeezed := ⟨fun_mk (st := s_squeezed) l23 c23 k23, PySem.W.mg_of X G a23, (fun_mk (st := s_squeezed) l23 c23 k23).binds (ps := ["letters", "some"]) fun _ _ _ _ _ _ us hl => match us, hl with | [_, _], _ => rfl⟩
    f_copying_turns := ⟨fun_mk (st := s_copying_turns) l24 c24 k24, PySem.W.mg_of X G a24, (fun_mk (st := s_copying_turns) l24 c24 k24).binds (ps := ["letters", "silent"]) fun _ _ _ _ _ _ us hl => match us, hl with | [_, _], _ => rfl⟩
    f_compare := ⟨fun_mk (st := s_compare) l25 c25 k25, PySem.W.mg_of X G a25, (fun_mk (st := s_compare) l25 c25 k25).binds (ps := ["letters", "one", "other"]) fun _ _ _ _ _ _ us hl => match us, hl with | [_, _, _], _ => rfl⟩
    f_law_number := ⟨fun_mk (st := s_law_number) l26 c26 k26, PySem.W.mg_of X G a26, (fun_mk (st := s_law_number) l26 c26 k26).binds (ps := ["script", "index"]) fun _ _ _ _ _ _ us hl => match us, hl with | [_, _], _ => rfl⟩
    f_law_letters := ⟨fun_mk (st := s_law_letters) l27 c27 k27, PySem.W.mg_of X G a27, (fun_mk (st := s_law_letters) l27 c27 k27).binds (ps := ["script", "at"]) fun _ _ _ _ _ _ us hl => match us, hl with | [_, _], _ => rfl⟩
    f_law_rows := ⟨fun_mk (st := s_law_rows) l28 c28 k28, PySem.W.mg_of X G a28, (fun_mk (st := s_law_rows) l28 c28 k28).binds (ps := ["script", "at", "letters", "most"]) fun _ _ _ _ _ _ us hl => match us, hl with | [_, _, _, _], _ => rfl⟩
    f_law_value := ⟨fun_mk (st := s_law_value) l29 c29 k29, PySem.W.mg_of X G a29, (fun_mk (st := s_law_value) l29 c29 k29).binds (ps := ["script", "at", "letters", "most"]) fun _ _ _ _ _ _ us hl => match us, hl with | [_, _, _, _], _ => rfl⟩
    f_law_turn := ⟨fun_mk (st := s_law_turn) l30 c30 k30, PySem.W.mg_of X G a30, (fun_mk (st := s_law_turn) l30 c30 k30).binds (ps := ["letters", "rows", "state", "letter"]) fun _ _ _ _ _ _ us hl => match us, hl with | [_, _, _, _], _ => rfl⟩
    f_law_ends := ⟨fun_mk (st := s_law_ends) l31 c31 k31, PySem.W.mg_of X G a31, (fun_mk (st := s_law_ends) l31 c31 k31).binds (ps := ["letters", "rows", "value"]) fun _ _ _ _ _ _ us hl => match us, hl with | [_, _, _], _ => rfl⟩
    f_law_raised := ⟨fun_mk (st := s_law_raised) l32 c32 k32, PySem.W.mg_of X G a32, (fun_mk (st := s_law_raised) l32 c32 k32).binds (ps := ["call"]) fun _ _ _ _ _ _ us hl => match us, hl with | [_], _ => rfl⟩
    f_law_ready_right := ⟨fun_mk (st := s_law_ready_right) l33 c33 k33, PySem.W.mg_of X G a33, (fun_mk (st := s_law_ready_right) l33 c33 k33).binds (ps := ["letters", "value", "some", "many"]) fun _ _ _ _ _ _ us hl => match us, hl with | [_, _, _, _], _ => rfl⟩
    f_law_bent := ⟨fun_mk (st := s_law_bent) l34 c34 k34, PySem.W.mg_of X G a34, (fun_mk (st := s_law_bent) l34 c34 k34).binds (ps := ["seed", "letters", "rows"]) fun _ _ _ _ _ _ us hl => match us, hl with | [_, _, _], _ => rfl⟩
    f_law_order_right := ⟨fun_mk (st := s_law_order_right) l35 c35 k35, PySem.W.mg_of X G a35, (fun_mk (st := s_law_order_right) l35 c35 k35).binds (ps := ["script", "letters", "value"]) fun _ _ _ _ _ _ us hl => match us, hl with | [_, _, _], _ => rfl⟩
    f_law := ⟨fun_mk (st := s_law) l36 c36 k36, PySem.W.mg_of X G a36, (fun_mk (st := s_law) l36 c36 k36).binds (ps := ["script"]) fun _ _ _ _ _ _ us hl => match us, hl with | [_], _ => rfl⟩
    codeL := rfl
    gX_BadMachine := PySem.W.mg_of X G bA
    oB := ⟨⟨_, _, _, _, _, _, _, _, _, _, _, _, _, _, _, bL, bR⟩, bS, bE, bT, bK⟩
    xB := ⟨bG, bH, bE, bD⟩
    rB := bW
    iB := bI
    tB := bF
    fB := ⟨_, _, _, _, _, _, _, _, _, _, rfl, bN, ⟨⟨_, _, _, _, _, _, bC, b2, bP⟩, bO, ⟨_, _, _, bQ⟩, ⟨_, bU⟩, bM, super_mk bU bV bX bY bZ, b3, b4, b5⟩⟩
    bB := .all fun us hl => match us, hl with | [_, _], _ => rfl
    eMM := exm_mk bE bU bT b6
    eLM := exm_mk bE bU bT b7
    eLL := exm_mk xbBadLetters bLc xtBadLetters xsBadLetters
    eVM := exm_mk bE bU bT b8
    eVL := exm_mk xbBadLetters bLc xtBadLetters b9
    eVV := exm_mk xbBadValue bVc xtBadValue xsBadValue
    cl := ⟨pg, hd, po, sa⟩
    mkC := ⟨mk, a6, i6, kc⟩
    g_Machine := PySem.W.mg_of X G aC
    iA := iA
    iN := iN
    iT := iT
    iM := iM
    neC := ne
    no_letters := na0
    no_rows := na1
    m_eq := ⟨a7, i7, k7⟩
    m_len := ⟨a8, i8, k8⟩
    p_letters := ⟨a9, ag9, at9, _, ar9⟩
    p_rows := ⟨a10, ag10, at10, _, ar10⟩
    m_turn := ⟨a11, i11, k11⟩
    m_made := ⟨a12, i12, k12⟩
    m_state_after := ⟨a13, i13, k13⟩
    m__after := ⟨a14, i14, k14⟩
    xX_BadLetters := xxBadLetters
    gX_BadLetters := PySem.W.mg_of X G xaBadLetters
    kX_BadLetters := xkBadLetters
    bX_BadLetters := xbBadLetters
    tX_BadLetters := xtBadLetters
    iX_BadLetters := xiBadLetters
    sX_BadLetters := xsBadLetters
    xX_BadValue := xxBadValue
    gX_BadValue := PySem.W.mg_of X G xaBadValue
    kX_BadValue := xkBadValue
    bX_BadValue := xbBadValue
    tX_BadValue := xtBadValue
    iX_BadValue := xiBadValue
    sX_BadValue := xsBadValue
    c_SIGNS := PySem.W.mg_of X G ccSIGNS
    c_MOST_STATES := PySem.W.mg_of X G ccMOST_STATES
    c_MOST_KEPT := PySem.W.mg_of X G ccMOST_KEPT
    n_all := PySem.W.mg_none_of X G zall
    n_bool := PySem.W.mg_none_of X G zbool
    n_call := PySem.W.mg_none_of X G zcall
    n_enumerate := PySem.W.mg_none_of X G zenumerate
    n_int := PySem.W.mg_none_of X G zint
    n_isinstance := PySem.W.mg_none_of X G zisinstance
    n_len := PySem.W.mg_none_of X G zlen
    n_list := PySem.W.mg_none_of X G zlist
    n_min := PySem.W.mg_none_of X G zmin
    n_range := PySem.W.mg_none_of X G zrange
    n_str := PySem.W.mg_none_of X G zstr
    n_sum := PySem.W.mg_none_of X G zsum
    n_super := PySem.W.mg_none_of X G zsuper
    n_tuple := PySem.W.mg_none_of X G ztuple }, rfl, ⟨_, _, _, _, _, l36, rfl, hL, h11, head_mk hL h11 h18 h7 h9 h10 hne, hno⟩⟩
end K1
set_option Elab.async false
set_option linter.all false
set_option maxRecDepth 100000
set_option maxHeartbeats 8000000
namespace K1
open PySem PySem.Spec PyProof.Rows L2 FX
theorem binds_law {K : PySem.W.Frag} {mg : Str → Option Value} {A : Ad} {P : Program} (T : Txt P K mg A) (s : Shared) (u : Value) : BindsTo s A.d_law ⟨[u], []⟩ [("script", u)] := by
  obtain ⟨_, _, _, _, _, _, _, _, _, e, _, _⟩ := T.f_law.F.ex
  rw [e]
  exact .of_eq rfl
theorem fin {l : PySem.W.OpenLaw} {w : World} {K : PySem.W.Frag} {mg : Str → Option Value} {fa : Addr} {h : Heap} (KX : K.In h) (own : LamX.OwnTab K fa h) (X : ∃ A : Ad, Txt l.prog K mg A ∧ A.a_law = fa ∧ LawCode K A) : LamX.LawAtS l w K CX0 14 63 "script" mg fa h := by
  obtain ⟨A, T, rfl, o, e, dd, vs, sl, k1, k2, k3, k4, k5, k6⟩ := X
  refine ⟨A.d_law, [(A.cL, A.tL)], sp_law K A, fun p hp => ?_, fun p hp => ?_, fun p hp => ?_, binds_law T, fun H a ns hl _ hT hS => ⟨a, ns, rfl, hS, hl, hT _ List.mem_cons_self, fun _ => rfl⟩, fun base _ _ TB => ok_law T (TB _ List.mem_cons_self)⟩
  · rw [List.mem_singleton.mp hp]
    exact own _ _ _ _ _ _ _ _ k1 k2 T.codeL k3 k4
  · rw [List.mem_singleton.mp hp]
    exact k6
  · rw [List.mem_singleton.mp hp]
    exact PySem.W.codeHd_of_K KX k5
theorem walk {l : PySem.W.OpenLaw} {q : Program} {loose : List Str} {XP : (Str → Option Value) → Heap → Prop} {YP : World → Heap → Prop} {d : DefRec} {K : Params → PySem.W.Frag} (hn : l.most = some 63) (hdf : d.params.defaults = []) (hrec : ((recsOf q).any fun e => e.name == d.name) = true)
    (hY : ∀ (w : World) (h : Heap), YP w h → (K w.params).In h) (F : ∀ (w : World) (mg : Str → Option Value) (fa : Addr) (h : Heap), (K w.params).In h → h.Ns mainGlobals mg → mg d.name = some (.ref fa) → ∃ A : Ad, Txt l.prog (K w.params) mg A ∧ A.a_law = fa ∧ LawCode (K w.params) A) :
    PySem.W.WalkO q loose XP YP l.row.toRowW d [] (fun f vs => PySem.call f vs) :=
  LamX.walk_ofOwn (n := 63) (k := 14) (x := "script") (CX := fun _ => CX0) hn (by decide) hdf ⟨rfl, by decide, by decide⟩ hrec hY (fun w mg fa h _ KX G hm own => fin KX own (F w mg fa h KX G hm)) fun _ _ _ _ _ z => z
end K1
open PySem PySem.W PyProof.Rows in
set_option maxRecDepth 100000 in
set_option maxHeartbeats 0 in
theorem PySem.Challenge.cw_foldlook_k01_whole_machines_holds : PySem.Challenge.rw_foldlook_k01_whole_machines.Holds := by
  w_on; o_law; k_head; (case hw => w_witness2)
  k_fill
  refine K1.walk (l := PySem.Challenge.rw_foldlook_k01_whole_machines) rfl rfl (by rfl) (fun w h Y => PySem.W.km_in_of Y) ?F
  case F =>
    intro w mg fa h KX G hmg
    refine' K1.all_mk KX G hmg ?aC ?a1 ?l1 ?c1 ?k1 ?a2 ?l2 ?c2 ?k2 ?a3 ?l3 ?c3 ?k3 ?a4 ?l4 ?c4 ?k4 ?a5 ?l5 ?c5 ?k5 ?a6 ?i6 ?l6 ?c6 ?k6 ?a7 ?i7 ?l7 ?c7 ?k7 ?a8 ?i8 ?l8 ?c8 ?k8 ?a9 ?ag9 ?at9 ?ar9 ?l9 ?c9 ?k9 ?a10 ?ag10 ?at10 ?ar10 ?l10 ?c10 ?k10 ?a11 ?i11 ?l11 ?c11 ?k11 ?a12 ?i12 ?l12 ?c12 ?k12 ?a13 ?i13 ?l13 ?c13 ?k13 ?a14 ?i14 ?l14 ?c14 ?k14 ?a15 ?l15 ?c15 ?k15 ?a16 ?l16 ?c16 ?k16 ?a17 ?l17 ?c17 ?k17 ?a18 ?l18 ?c18 ?k18 ?a19 ?l19 ?c19 ?k19 ?a20 ?l20 ?c20 ?k20 ?a21 ?l21 ?c21 ?k21 ?a22 ?l22 ?c22 ?k22 ?a23 ?l23 ?c23 ?k23 ?a24 ?l24 ?c24 ?k24 ?a25 ?l25 ?c25 ?k25 ?a26 ?l26 ?c26 ?k26 ?a27 ?l27 ?c27 ?k27 ?a28 ?l28 ?c28 ?k28 ?a29 ?l29 ?c29 ?k29 ?a30 ?l30 ?c30 ?k30 ?a31 ?l31 ?c31 ?k31 ?a32 ?l32 ?c32 ?k32 ?a33 ?l33 ?c33 ?k33 ?a34 ?l34 ?c34 ?k34 ?a35 ?l35 ?c35 ?k35 ?a36 ?l36 ?c36 ?k36 ?pg ?hd ?po ?sa ?mk ?kc ?iA ?iN ?iT ?iM ?ne ?na0 ?na1 ?xaBadLetters ?xxBadLetters ?xkBadLetters ?xbBadLetters ?xtBadLetters ?xiBadLetters ?xsBadLetters ?xaBadValue ?xxBadValue ?xkBadValue ?xbBadValue ?xtBadValue ?xiBadValue ?xsBadValue ?ccSIGNS ?ccMOST_STATES ?ccMOST_KEPT ?zall ?zbool ?zcall ?zenumerate ?zint ?zisinstance ?zlen ?zlist ?zmin ?zrange ?zstr ?zsum ?zsuper ?ztuple ?bA ?bL ?bR ?bS ?bE ?bT ?bK ?bG ?bH ?bD ?bW ?bI ?bF ?bN ?bC ?b2 ?bP ?bO ?bQ ?bU ?bM ?bV ?bX ?bY ?bZ ?b3 ?b4 ?b5 ?b6 ?b7 ?b8 ?b9 ?bLc ?bVc ?hL ?h11 ?h18 ?h7 ?h9 ?h10 ?hne ?hno
    (case aC => k_is)
    (case a1 => k_is)
    (case l1 => k_is)
    (case c1 => k_is)
    (case k1 => k_is)
    (case a2 => k_is)
    (case l2 => k_is)
    (case c2 => k_is)
    (case k2 => k_is)
    (case a3 => k_is)
    (case l3 => k_is)
    (case c3 => k_is)
    (case k3 => k_is)
    (case a4 => k_is)
    (case l4 => k_is)
    (case c4 => k_is)
    (case k4 => k_is)
    (case a5 => k_is)
    (case l5 => k_is)
    (case c5 => k_is)
    (case k5 => k_is)
    (case a6 => k_is)
    (case i6 => k_is)
    (case l6 => k_is)
    (case c6 => k_is)
    (case k6 => k_is)
    (case a7 => k_is)
    (case i7 => k_is)
    (case l7 => k_is)
    (case c7 => k_is)
    (case k7 => k_is)
    (case a8 => k_is)
    (case i8 => k_is)
    (case l8 => k_is)
    (case c8 => k_is)
    (case k8 => k_is)
    (case a9 => k_is)
    (case ag9 => k_is)
    (case at9 => k_is)
    (case ar9 => k_is)
    (case l9 => k_is)
    (case c9 => k_is)
    (case k9 => k_is)
    (case a10 => k_is)
    (case ag10 => k_is)
    (case at10 => k_is)
    (case ar10 => k_is)
    (case l10 => k_is)
    (case c10 => k_is)
    (case k10 => k_is)
    (case a11 => k_is)
    (case i11 => k_is)
    (case l11 => k_is)
    (case c11 => k_is)
    (case k11 => k_is)
    (case a12 => k_is)
    (case i12 => k_is)
    (case l12 => k_is)
    (case c12 => k_is)
    (case k12 => k_is)
    (case a13 => k_is)
    (case i13 => k_is)
    (case l13 => k_is)
    (case c13 => k_is)
    (case k13 => k_is)
    (case a14 => k_is)
    (case i14 => k_is)
    (case l14 => k_is)
    (case c14 => k_is)
    (case k14 => k_is)
    (case a15 => k_is)
    (case l15 => k_is)
    (case c15 => k_is)
    (case k15 => k_is)
    (case a16 => k_is)
    (case l16 => k_is)
    (case c16 => k_is)
    (case k16 => k_is)
    (case a17 => k_is)
    (case l17 => k_is)
    (case c17 => k_is)
    (case k17 => k_is)
    (case a18 => k_is)
    (case l18 => k_is)
    (case c18 => k_is)
    (case k18 => k_is)
    (case a19 => k_is)
    (case l19 => k_is)
    (case c19 => k_is)
    (case k19 => k_is)
    (case a20 => k_is)
    (case l20 => k_is)
    (case c20 => k_is)
    (case k20 => k_is)
    (case a21 => k_is)
    (case l21 => k_is)
    (case c21 => k_is)
    (case k21 => k_is)
    (case a22 => k_is)
    (case l22 => k_is)
    (case c22 => k_is)
    (case k22 => k_is)
    (case a23 => k_is)
    (case l23 => k_is)
    (case c23 => k_is)
    (case k23 => k_is)
    (case a24 => k_is)
    (case l24 => k_is)
    (case c24 => k_is)
    (case k24 => k_is)
    (case a25 => k_is)
    (case l25 => k_is)
    (case c25 => k_is)
    (case k25 => k_is)
    (case a26 => k_is)
    (case l26 => k_is)
    (case c26 => k_is)
    (case k26 => k_is)
    (case a27 => k_is)
    (case l27 => k_is)
    (case c27 => k_is)
    (case k27 => k_is)
    (case a28 => k_is)
    (case l28 => k_is)
    (case c28 => k_is)
    (case k28 => k_is)
    (case a29 => k_is)
    (case l29 => k_is)
    (case c29 => k_is)
    (case k29 => k_is)
    (case a30 => k_is)
    (case l30 => k_is)
    (case c30 => k_is)
    (case k30 => k_is)
    (case a31 => k_is)
    (case l31 => k_is)
    (case c31 => k_is)
    (case k31 => k_is)
    (case a32 => k_is)
    (case l32 => k_is)
    (case c32 => k_is)
    (case k32 => k_is)
    (case a33 => k_is)
    (case l33 => k_is)
    (case c33 => k_is)
    (case k33 => k_is)
    (case a34 => k_is)
    (case l34 => k_is)
    (case c34 => k_is)
    (case k34 => k_is)
    (case a35 => k_is)
    (case l35 => k_is)
    (case c35 => k_is)
    (case k35 => k_is)
    (case a36 => k_is)
    (case l36 => k_is)
    (case c36 => k_is)
    (case k36 => k_is)
    (case pg => k_is)
    (case hd => k_is)
    (case po => k_is)
    (case sa => k_is)
    (case mk => k_is)
    (case kc => k_is)
    (case iA => k_is)
    (case iN => k_is)
    (case iT => k_is)
    (case iM => k_is)
    (case ne => k_is)
    (case na0 => k_is)
    (case na1 => k_is)
    (case xaBadLetters => k_is)
    (case xxBadLetters => k_exc)
    (case xkBadLetters => k_is)
    (case xbBadLetters => k_is)
    (case xtBadLetters => k_is)
    (case xiBadLetters => k_is)
    (case xsBadLetters => first | rfl | k_is)
    (case xaBadValue => k_is)
    (case xxBadValue => k_exc)
    (case xkBadValue => k_is)
    (case xbBadValue => k_is)
    (case xtBadValue => k_is)
    (case xiBadValue => k_is)
    (case xsBadValue => first | rfl | k_is)
    (case ccSIGNS => k_is)
    (case ccMOST_STATES => k_is)
    (case ccMOST_KEPT => k_is)
    (case zall => k_is)
    (case zbool => k_is)
    (case zcall => k_is)
    (case zenumerate => k_is)
    (case zint => k_is)
    (case zisinstance => k_is)
    (case zlen => k_is)
    (case zlist => k_is)
    (case zmin => k_is)
    (case zrange => k_is)
    (case zstr => k_is)
    (case zsum => k_is)
    (case zsuper => k_is)
    (case ztuple => k_is)
    (case bA => k_is)
    (case bL => k_is)
    (case bR => rfl)
    (case bS => k_is)
    (case bE => k_is)
    (case bT => k_is)
    (case bK => k_is)
    (case bG => k_is)
    (case bH => k_is)
    (case bD => k_is)
    (case bW => k_is)
    (case bI => k_is)
    (case bF => k_is)
    (case bN => k_is)
    (case bC => k_is)
    (case b2 => rfl)
    (case bP => rfl)
    (case bO => k_is)
    (case bQ => k_is)
    (case bU => k_is)
    (case bM => k_is)
    (case bV => rfl)
    (case bX => k_is)
    (case bY => rfl)
    (case bZ => k_is)
    (case b3 => k_is)
    (case b4 => k_is)
    (case b5 => rfl)
    (case b6 => k_is)
    (case b7 => k_is)
    (case b8 => k_is)
    (case b9 => k_is)
    (case bLc => k_is)
    (case bVc => k_is)
    (case hL => k_is)
    (case h11 => rfl)
    (case h18 => rfl)
    (case h7 => rfl)
    (case h9 => rfl)
    (case h10 => rfl)
    (case hne => rfl)
    (case hno => kernel_rfl)
