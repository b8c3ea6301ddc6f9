import PyProof.Rows.All
import Wide.All
import OpenK.AllK
import Wide.FinOn
import PySem.Challenge.RW_foldlook_k03_whole_conditions
import KE.GoesEnum
import HandS.ForMost
import HandS.ForExc
import HandS.Property
import HandS.OwnEq
import HandS.Deep
import HandS.TupMul
import HandS.TupAny
import HandS.IsInst
import HandS.Walk
import HandS.Strs
import HandS.Conv
import HandS.Replace
import HandS.Small
import HandS.FStr
import HandS.TryMany
import HandS.SetFor
import KE.DataCmp
import HandS.TryOnly
set_option Elab.async false
set_option linter.all false
/-! the mathematics of machines: steps, runs, one machine behind another -/
namespace FX
abbrev Rows := List (List (Nat × List Nat))
/-- the rows of a machine on the letters zs -/
structure MachOk (zs : List Nat) (R : Rows) : Prop where
  pos : 1 ≤ R.length
  rows : ∀ row ∈ R, row.length = zs.length
  st : ∀ row ∈ R, ∀ t ∈ row, t.1 < R.length
  one : ∀ row ∈ R, ∀ t ∈ row, t.2.length ≤ 1
  out : ∀ row ∈ R, ∀ t ∈ row, ∀ c ∈ t.2, c ∈ zs
def ix (zs : List Nat) (c : Nat) : Nat := zs.idxOf c
def stp (zs : List Nat) (R : Rows) (s c : Nat) : Nat × List Nat := (R.getD s []).getD (ix zs c) (0, [])
def runM (zs : List Nat) (R : Rows) : Nat → List Nat → Nat × List Nat
  | s, [] => (s, [])
  | s, c :: r => ((runM zs R (stp zs R s c).1 r).1, (stp zs R s c).2 ++ (runM zs R (stp zs R s c).1 r).2)
def madeM (zs : List Nat) (R : Rows) (v : List Nat) : List Nat := (runM zs R 0 v).2

theorem ix_lt {zs : List Nat} {c : Nat} (h : c ∈ zs) : ix zs c < zs.length := List.idxOf_lt_length_of_mem h

theorem stp_mem {zs : List Nat} {R : Rows} (M : MachOk zs R) {s c : Nat} (hs : s < R.length) (hc : c ∈ zs) :
    ∃ row, R[s]? = some row ∧ row[ix zs c]? = some (stp zs R s c) ∧ row ∈ R ∧ stp zs R s c ∈ row := by
  have h1 : R[s] ∈ R := List.getElem_mem hs
  have h2 : ix zs c < R[s].length := by rw [M.rows _ h1]; exact ix_lt hc
  have e1 : R[s]? = some R[s] := List.getElem?_eq_getElem hs
  have e2 : stp zs R s c = R[s][ix zs c] := by
    unfold stp
    have e3 : R.getD s [] = R[s] := by
      rw [List.getD_eq_getElem?_getD, e1]
      rfl
    rw [e3, List.getD_eq_getElem?_getD, List.getElem?_eq_getElem h2]
    rfl
  exact ⟨R[s], e1, by rw [e2]; exact List.getElem?_eq_getElem h2, h1, by rw [e2]; exact List.getElem_mem h2⟩
theorem stp_lt {zs : List Nat} {R : Rows} (M : MachOk zs R) {s c : Nat} (hs : s < R.length) (hc : c ∈ zs) : (stp zs R s c).1 < R.length := by
  obtain ⟨row, _, _, h1, h2⟩ := stp_mem M hs hc
  exact M.st row h1 _ h2
theorem stp_one {zs : List Nat} {R : Rows} (M : MachOk zs R) {s c : Nat} (hs : s < R.length) (hc : c ∈ zs) : (stp zs R s c).2.length ≤ 1 := by
  obtain ⟨row, _, _, h1, h2⟩ := stp_mem M hs hc
  exact M.one row h1 _ h2
theorem stp_out {zs : List Nat} {R : Rows} (M : MachOk zs R) {s c : Nat} (hs : s < R.length) (hc : c ∈ zs) : ∀ d ∈ (stp zs R s c).2, d ∈ zs := by
  obtain ⟨row, _, _, h1, h2⟩ := stp_mem M hs hc
  exact M.out row h1 _ h2
theorem runM_app (zs : List Nat) (R : Rows) : ∀ (u v : List Nat) (s : Nat), runM zs R s (u ++ v) = ((runM zs R (runM zs R s u).1 v).1, (runM zs R s u).2 ++ (runM zs R (runM zs R s u).1 v).2)
  | [], v, s => by simp [runM]
  | c :: u, v, s => by
    show ((runM zs R _ (u ++ v)).1, _ ++ (runM zs R _ (u ++ v)).2) = _
    rw [runM_app zs R u v]
    simp [runM, List.append_assoc]
theorem runM_lt {zs : List Nat} {R : Rows} (M : MachOk zs R) : ∀ (v : List Nat) (s : Nat), s < R.length → (∀ c ∈ v, c ∈ zs) → (runM zs R s v).1 < R.length
  | [], s, hs, _ => hs
  | c :: v, s, hs, hv => runM_lt M v _ (stp_lt M hs (hv c List.mem_cons_self)) fun d hd => hv d (List.mem_cons_of_mem _ hd)
theorem runM_out {zs : List Nat} {R : Rows} (M : MachOk zs R) : ∀ (v : List Nat) (s : Nat), s < R.length → (∀ c ∈ v, c ∈ zs) → ∀ d ∈ (runM zs R s v).2, d ∈ zs
  | [], s, hs, _, d, hd => nomatch hd
  | c :: v, s, hs, hv, d, hd => by
    have hc := hv c List.mem_cons_self
    rcases List.mem_append.mp hd with h | h
    · exact stp_out M hs hc d h
    · exact runM_out M v _ (stp_lt M hs hc) (fun d hd => hv d (List.mem_cons_of_mem _ hd)) d h
theorem runM_len {zs : List Nat} {R : Rows} (M : MachOk zs R) : ∀ (v : List Nat) (s : Nat), s < R.length → (∀ c ∈ v, c ∈ zs) → (runM zs R s v).2.length ≤ v.length
  | [], s, hs, _ => Nat.le_refl _
  | c :: v, s, hs, hv => by
    have hc := hv c List.mem_cons_self
    have h1 := stp_one M hs hc
    have h2 := runM_len M v _ (stp_lt M hs hc) fun d hd => hv d (List.mem_cons_of_mem _ hd)
    show ((stp zs R s c).2 ++ (runM zs R (stp zs R s c).1 v).2).length ≤ _
    rw [List.length_append, List.length_cons]
    omega

/-- the outs, letter by letter -/
def outL (zs : List Nat) (R : Rows) : Nat → List Nat → List (List Nat)
  | _, [] => []
  | s, c :: r => (stp zs R s c).2 :: outL zs R (stp zs R s c).1 r
theorem outL_flat (zs : List Nat) (R : Rows) : ∀ (v : List Nat) (s : Nat), (outL zs R s v).flatten = (runM zs R s v).2
  | [], s => rfl
  | c :: v, s => by
    show ((stp zs R s c).2 :: outL zs R (stp zs R s c).1 v).flatten = _
    rw [List.flatten_cons, outL_flat zs R v]
    rfl
theorem outL_app (zs : List Nat) (R : Rows) : ∀ (u v : List Nat) (s : Nat), outL zs R s (u ++ v) = outL zs R s u ++ outL zs R (runM zs R s u).1 v
  | [], v, s => rfl
  | c :: u, v, s => by
    show _ :: outL zs R _ (u ++ v) = _
    rw [outL_app zs R u v]
    rfl
theorem outL_len (zs : List Nat) (R : Rows) : ∀ (v : List Nat) (s : Nat), (outL zs R s v).length = v.length
  | [], s => rfl
  | c :: v, s => by
    show (outL zs R _ v).length + 1 = v.length + 1
    rw [outL_len zs R v]
theorem take_succ' {α : Type} {l : List α} {i : Nat} {x : α} (h : l[i]? = some x) : l.take (i + 1) = l.take i ++ [x] := by
  rw [List.take_add_one, h]
  rfl
/-! ### one machine behind which another stands -/
def jt (zs : List Nat) (R1 R2 : Rows) (p : Nat × Nat) (c : Nat) : (Nat × Nat) × List Nat :=
  match (stp zs R1 p.1 c).2 with
  | [] => (((stp zs R1 p.1 c).1, p.2), [])
  | h :: _ => (((stp zs R1 p.1 c).1, (stp zs R2 p.2 h).1), (stp zs R2 p.2 h).2)
abbrev PS := List (Nat × Nat)
def addP (ps : PS) (q : Nat × Nat) : PS := if q ∈ ps then ps else ps ++ [q]
/-- the letters of a row, one after the other -/
def rowS (f : Nat → (Nat × Nat) × List Nat) : List Nat → PS → List (Nat × List Nat) → PS × List (Nat × List Nat)
  | [], ps, row => (ps, row)
  | c :: r, ps, row => rowS f r (addP ps (f c).1) (row ++ [((addP ps (f c).1).idxOf (f c).1, (f c).2)])
abbrev BS := PS × Rows
def turnB (zs : List Nat) (R1 R2 : Rows) (s : BS) : BS :=
  ((rowS (jt zs R1 R2 (s.1.getD s.2.length (0, 0))) zs s.1 []).1, s.2 ++ [(rowS (jt zs R1 R2 (s.1.getD s.2.length (0, 0))) zs s.1 []).2])
def bfs (zs : List Nat) (R1 R2 : Rows) : Nat → BS → BS
  | 0, s => s
  | n + 1, s => if s.2.length < s.1.length then bfs zs R1 R2 n (turnB zs R1 R2 s) else s
theorem bfs_done {zs : List Nat} {R1 R2 : Rows} {s : BS} (h : ¬ s.2.length < s.1.length) : ∀ n, bfs zs R1 R2 n s = s
  | 0 => rfl
  | n + 1 => by unfold bfs; rw [if_neg h]
theorem bfs_step {zs : List Nat} {R1 R2 : Rows} {s : BS} (h : s.2.length < s.1.length) (n : Nat) : bfs zs R1 R2 (n + 1) s = bfs zs R1 R2 n (turnB zs R1 R2 s) := by
  rw [bfs, if_pos h]

theorem addP_mem (ps : PS) (q : Nat × Nat) : q ∈ addP ps q := by
  unfold addP
  split
  · assumption
  · simp
theorem addP_pre (ps : PS) (q : Nat × Nat) : ∃ t, addP ps q = ps ++ t := by
  unfold addP
  split
  · exact ⟨[], by simp⟩
  · exact ⟨[q], rfl⟩
theorem addP_nodup {ps : PS} {q : Nat × Nat} (h : ps.Nodup) : (addP ps q).Nodup := by
  unfold addP
  split
  · exact h
  · rename_i hq
    rw [List.nodup_append]
    refine ⟨h, by simp, ?_⟩
    intro a ha b hb e
    simp at hb
    subst hb
    exact hq (e ▸ ha)
theorem addP_all {ps : PS} {q : Nat × Nat} {P : Nat × Nat → Prop} (h : ∀ x ∈ ps, P x) (hq : P q) : ∀ x ∈ addP ps q, P x := by
  unfold addP
  split
  · exact h
  · intro x hx
    rcases List.mem_append.mp hx with h' | h'
    · exact h x h'
    · simp at h'
      rw [h']
      exact hq
/-- what a row comes to -/
theorem rowS_spec (f : Nat → (Nat × Nat) × List Nat) (P : Nat × Nat → Prop) : ∀ (cs : List Nat) (ps : PS) (row : List (Nat × List Nat)), (∀ c ∈ cs, P (f c).1) → ps.Nodup → (∀ x ∈ ps, P x) →
    (rowS f cs ps row).1.Nodup ∧ (∀ x ∈ (rowS f cs ps row).1, P x) ∧ (∃ t, (rowS f cs ps row).1 = ps ++ t) ∧
    ∃ r, (rowS f cs ps row).2 = row ++ r ∧ r.length = cs.length ∧ ∀ (i c : Nat), cs[i]? = some c → ∃ j : Nat, r[i]? = some (j, (f c).2) ∧ (rowS f cs ps row).1[j]? = some (f c).1
  | [], ps, row, _, h1, h2 => ⟨h1, h2, ⟨[], by simp [rowS]⟩, [], by simp [rowS], rfl, fun i c h => by simp at h⟩
  | c :: cs, ps, row, hf, h1, h2 => by
    have hc := hf c List.mem_cons_self
    obtain ⟨k1, k2, ⟨t, ht⟩, r, hr, hl, hi⟩ := rowS_spec f P cs (addP ps (f c).1) (row ++ [((addP ps (f c).1).idxOf (f c).1, (f c).2)]) (fun d hd => hf d (List.mem_cons_of_mem _ hd)) (addP_nodup h1) (addP_all h2 hc)
    obtain ⟨t0, ht0⟩ := addP_pre ps (f c).1
    refine ⟨k1, k2, ⟨t0 ++ t, ?_⟩, ((addP ps (f c).1).idxOf (f c).1, (f c).2) :: r, ?_, by simp [hl], fun i d hd => ?_⟩
    · show (rowS f cs _ _).1 = _
      rw [ht, ht0, List.append_assoc]
    · show (rowS f cs _ _).2 = _
      rw [hr, List.append_assoc]
      rfl
    · cases i with
      | zero =>
        simp at hd
        subst hd
        refine ⟨_, rfl, ?_⟩
        show (rowS f cs _ _).1[_]? = _
        have hm := addP_mem ps (f c).1
        have hlt := List.idxOf_lt_length_of_mem hm
        rw [ht, List.getElem?_append_left hlt, List.getElem?_eq_getElem hlt]
        simp
      | succ i =>
        simp at hd
        obtain ⟨j, h3, h4⟩ := hi i d hd
        exact ⟨j, by simpa using h3, h4⟩

/-- what holds of the pairs and rows between two turns -/
structure BInv (zs : List Nat) (R1 R2 : Rows) (s : BS) : Prop where
  nd : s.1.Nodup
  bd : ∀ p ∈ s.1, p.1 < R1.length ∧ p.2 < R2.length
  z : s.1[0]? = some (0, 0)
  le : s.2.length ≤ s.1.length
  row : ∀ row ∈ s.2, row.length = zs.length
  done : ∀ (i : Nat) (row : List (Nat × List Nat)) (p : Nat × Nat), s.2[i]? = some row → s.1[i]? = some p → ∀ (k c : Nat), zs[k]? = some c → ∃ j : Nat, row[k]? = some (j, (jt zs R1 R2 p c).2) ∧ s.1[j]? = some (jt zs R1 R2 p c).1
theorem jt_bd {zs : List Nat} {R1 R2 : Rows} (M1 : MachOk zs R1) (M2 : MachOk zs R2) {p : Nat × Nat} {c : Nat} (hp : p.1 < R1.length ∧ p.2 < R2.length) (hc : c ∈ zs) :
    ((jt zs R1 R2 p c).1.1 < R1.length ∧ (jt zs R1 R2 p c).1.2 < R2.length) ∧ (jt zs R1 R2 p c).2.length ≤ 1 ∧ ∀ d ∈ (jt zs R1 R2 p c).2, d ∈ zs := by
  have h1 := stp_lt M1 hp.1 hc
  have h2 := stp_out M1 hp.1 hc
  unfold jt
  split
  · exact ⟨⟨h1, hp.2⟩, by simp, fun d hd => nomatch hd⟩
  · rename_i h r e
    have hh : h ∈ zs := h2 h (by rw [e]; exact List.mem_cons_self)
    exact ⟨⟨h1, stp_lt M2 hp.2 hh⟩, stp_one M2 hp.2 hh, stp_out M2 hp.2 hh⟩
theorem BInv.init {zs : List Nat} {R1 R2 : Rows} (h1 : 1 ≤ R1.length) (h2 : 1 ≤ R2.length) : BInv zs R1 R2 ([(0, 0)], []) where
  nd := by simp
  bd := fun p hp => by simp at hp; subst hp; exact ⟨h1, h2⟩
  z := rfl
  le := Nat.zero_le _
  row := fun row h => nomatch h
  done := fun i row p h => by simp at h
theorem BInv.turn {zs : List Nat} {R1 R2 : Rows} (M1 : MachOk zs R1) (M2 : MachOk zs R2) {s : BS} (B : BInv zs R1 R2 s) (h : s.2.length < s.1.length) : BInv zs R1 R2 (turnB zs R1 R2 s) := by
  have hp : s.1[s.2.length]? = some (s.1.getD s.2.length (0, 0)) := by
    rw [List.getD_eq_getElem?_getD, List.getElem?_eq_getElem h]
    rfl
  have hpm : s.1.getD s.2.length (0, 0) ∈ s.1 := List.mem_of_getElem? hp
  have hb := B.bd _ hpm
  obtain ⟨k1, k2, ⟨t, ht⟩, r, hr, hl, hi⟩ := rowS_spec (jt zs R1 R2 (s.1.getD s.2.length (0, 0))) (fun p => p.1 < R1.length ∧ p.2 < R2.length) zs s.1 [] (fun c hc => (jt_bd M1 M2 hb hc).1) B.nd B.bd
  have e1 : (turnB zs R1 R2 s).1 = s.1 ++ t := ht
  have e2 : (turnB zs R1 R2 s).2 = s.2 ++ [r] := by
    show s.2 ++ [_] = _
    rw [hr]
    rfl
  have up : ∀ i p, s.1[i]? = some p → (turnB zs R1 R2 s).1[i]? = some p := fun i p hi => by
    rw [e1, List.getElem?_append_left (List.getElem?_eq_some_iff.mp hi).1]
    exact hi
  refine ⟨k1, k2, up _ _ B.z, ?_, fun row hrow => ?_, fun i row p hrow hp' k c hk => ?_⟩
  · rw [e2, e1, List.length_append, List.length_append]
    simp
    omega
  · rw [e2] at hrow
    rcases List.mem_append.mp hrow with q | q
    · exact B.row row q
    · simp at q
      rw [q]
      exact hl
  · rw [e2] at hrow
    by_cases hlt : i < s.2.length
    · rw [List.getElem?_append_left hlt] at hrow
      have hlt' : i < s.1.length := by omega
      have hp2 : s.1[i]? = some p := by
        rw [e1, List.getElem?_append_left hlt'] at hp'
        exact hp'
      obtain ⟨j, h3, h4⟩ := B.done i row p hrow hp2 k c hk
      exact ⟨j, h3, up _ _ h4⟩
    · have hi' : i = s.2.length := by
        have q := (List.getElem?_eq_some_iff.mp hrow).1
        rw [List.length_append] at q
        simp at q
        omega
      subst hi'
      rw [List.getElem?_append_right (Nat.le_refl _)] at hrow
      simp at hrow
      subst hrow
      have ep : p = s.1.getD s.2.length (0, 0) := Option.some.inj (hp'.symm.trans (up _ _ hp))
      subst ep
      obtain ⟨j, h3, h4⟩ := hi k c hk
      exact ⟨j, h3, h4⟩
theorem nodup_sub_len : ∀ {l m : List Nat}, l.Nodup → l ⊆ m → l.length ≤ m.length
  | [], m, _, _ => Nat.zero_le _
  | a :: l, m, hn, hs => by
    have ha : a ∈ m := hs List.mem_cons_self
    have hn' := List.nodup_cons.mp hn
    have h1 : l ⊆ m.erase a := fun x hx => by
      have hxa : x ≠ a := fun e => hn'.1 (e ▸ hx)
      exact (List.mem_erase_of_ne hxa).mpr (hs (List.mem_cons_of_mem _ hx))
    have h2 := nodup_sub_len hn'.2 h1
    rw [List.length_erase_of_mem ha] at h2
    have h3 : 0 < m.length := List.length_pos_of_mem ha
    rw [List.length_cons]
    omega
/-- pairs below bounds, none twice: at most so many -/
theorem nodup_le : ∀ (l : List (Nat × Nat)) (m n : Nat), l.Nodup → (∀ p ∈ l, p.1 < m ∧ p.2 < n) → l.length ≤ m * n := by
  intro l m n hn hb
  have h2 : (l.map fun p => p.1 * n + p.2).Nodup := by
    rw [List.nodup_iff_pairwise_ne] at hn
    show List.Pairwise _ _
    rw [List.pairwise_map]
    refine List.Pairwise.imp_of_mem (fun {a b} ha hb' hab e => hab ?_) hn
    have h3 := (hb a ha).2
    have h4 := (hb b hb').2
    have e1 : a.1 = b.1 := by
      have q1 : (a.1 * n + a.2) / n = a.1 := by
        rw [Nat.mul_comm, Nat.mul_add_div (by omega), Nat.div_eq_of_lt h3, Nat.add_zero]
      have q2 : (b.1 * n + b.2) / n = b.1 := by
        rw [Nat.mul_comm, Nat.mul_add_div (by omega), Nat.div_eq_of_lt h4, Nat.add_zero]
      rw [← q1, ← q2, e]
    have e2 : a.2 = b.2 := by rw [e1] at e; omega
    exact Prod.ext e1 e2
  have h3 : (l.map fun p => p.1 * n + p.2) ⊆ List.range (m * n) := by
    intro x hx
    obtain ⟨p, hp, rfl⟩ := List.mem_map.mp hx
    obtain ⟨h4, h5⟩ := hb p hp
    rw [List.mem_range]
    calc p.1 * n + p.2 < p.1 * n + n := by omega
      _ = (p.1 + 1) * n := by rw [Nat.add_mul, Nat.one_mul]
      _ ≤ m * n := Nat.mul_le_mul_right _ h4
  have h4 := nodup_sub_len h2 h3
  rw [List.length_map, List.length_range] at h4
  exact h4
end FX
set_option linter.all false
/-! the ready machines -/
namespace FX
def copyRow (zs : List Nat) (s : Nat) : List (Nat × List Nat) := zs.map fun c => (s, [c])
def plainR (zs : List Nat) : Rows := [copyRow zs 0]
def cutR (zs : List Nat) (n : Nat) : Rows := ((List.range n).map fun s => copyRow zs (s + 1)) ++ [List.replicate zs.length (n, [])]
def stripR (zs some : List Nat) : Rows := [zs.map fun c => if c ∈ some then (0, []) else (1, [c]), copyRow zs 1]
def turnsR (zs silent : List Nat) : List (Nat × List Nat) := (List.range zs.length).map fun i => (i + 1, if [zs.getD i 0] = silent then [] else [zs.getD i 0])
def squeezeR (zs some : List Nat) : Rows := turnsR zs [] :: zs.map fun l => turnsR zs (if l ∈ some then [l] else [])
theorem copyRow_mem {zs : List Nat} {s : Nat} {t : Nat × List Nat} (h : t ∈ copyRow zs s) : t.1 = s ∧ t.2.length ≤ 1 ∧ ∀ c ∈ t.2, c ∈ zs := by
  obtain ⟨c, hc, rfl⟩ := List.mem_map.mp h
  exact ⟨rfl, by simp, fun d hd => by simp at hd; rw [hd]; exact hc⟩
theorem turnsR_mem {zs silent : List Nat} {t : Nat × List Nat} (h : t ∈ turnsR zs silent) : t.1 ≤ zs.length ∧ t.2.length ≤ 1 ∧ ∀ c ∈ t.2, c ∈ zs := by
  obtain ⟨i, hi, rfl⟩ := List.mem_map.mp h
  have hi' := List.mem_range.mp hi
  refine ⟨hi', ?_, ?_⟩
  · show (if _ then _ else _ : List Nat).length ≤ 1
    split <;> simp
  · intro d hd
    replace hd : d ∈ (if [zs.getD i 0] = silent then [] else [zs.getD i 0]) := hd
    split at hd
    · cases hd
    · simp at hd
      rw [hd]
      rw [List.getElem?_eq_getElem hi']
      exact List.getElem_mem hi'
theorem plain_ok (zs : List Nat) : MachOk zs (plainR zs) where
  pos := Nat.le_refl _
  rows := fun row h => by simp [plainR] at h; subst h; simp [copyRow]
  st := fun row h t ht => by simp [plainR] at h; subst h; rw [(copyRow_mem ht).1]; exact Nat.zero_lt_one
  one := fun row h t ht => by simp [plainR] at h; subst h; exact (copyRow_mem ht).2.1
  out := fun row h t ht => by simp [plainR] at h; subst h; exact (copyRow_mem ht).2.2
theorem cut_len (zs : List Nat) (n : Nat) : (cutR zs n).length = n + 1 := by simp [cutR]
theorem cut_mem {zs : List Nat} {n : Nat} {row : List (Nat × List Nat)} (h : row ∈ cutR zs n) : (∃ s, s < n ∧ row = copyRow zs (s + 1)) ∨ row = List.replicate zs.length (n, []) := by
  rcases List.mem_append.mp h with h | h
  · obtain ⟨s, hs, rfl⟩ := List.mem_map.mp h
    exact .inl ⟨s, List.mem_range.mp hs, rfl⟩
  · simp at h
    exact .inr h
theorem cut_ok (zs : List Nat) (n : Nat) : MachOk zs (cutR zs n) where
  pos := by rw [cut_len]; omega
  rows := fun row h => by
    rcases cut_mem h with ⟨s, _, rfl⟩ | rfl
    · simp [copyRow]
    · simp
  st := fun row h t ht => by
    rw [cut_len]
    rcases cut_mem h with ⟨s, hs, rfl⟩ | rfl
    · rw [(copyRow_mem ht).1]; omega
    · rw [(List.mem_replicate.mp ht).2]; exact Nat.lt_succ_self n
  one := fun row h t ht => by
    rcases cut_mem h with ⟨s, hs, rfl⟩ | rfl
    · exact (copyRow_mem ht).2.1
    · rw [(List.mem_replicate.mp ht).2]; exact Nat.zero_le _
  out := fun row h t ht => by
    rcases cut_mem h with ⟨s, hs, rfl⟩ | rfl
    · exact (copyRow_mem ht).2.2
    · rw [(List.mem_replicate.mp ht).2]; exact fun c hc => nomatch hc
theorem strip_ok (zs some : List Nat) : MachOk zs (stripR zs some) := by
  have h0 : ∀ t ∈ (zs.map fun c => if c ∈ some then ((0, []) : Nat × List Nat) else (1, [c])), t.1 < 2 ∧ t.2.length ≤ 1 ∧ ∀ c ∈ t.2, c ∈ zs := by
    intro t ht
    obtain ⟨c, hc, rfl⟩ := List.mem_map.mp ht
    split
    · exact ⟨by decide, by simp, fun d hd => nomatch hd⟩
    · exact ⟨Nat.lt_succ_self 1, by simp, fun d hd => by simp at hd; rw [hd]; exact hc⟩
  have h1 : ∀ t ∈ copyRow zs 1, t.1 < 2 ∧ t.2.length ≤ 1 ∧ ∀ c ∈ t.2, c ∈ zs := fun t ht => by
    have := copyRow_mem ht
    exact ⟨by rw [this.1]; decide, this.2⟩
  have hall : ∀ row ∈ stripR zs some, row.length = zs.length ∧ ∀ t ∈ row, t.1 < 2 ∧ t.2.length ≤ 1 ∧ ∀ c ∈ t.2, c ∈ zs := by
    intro row h
    simp only [stripR, List.mem_cons, List.mem_nil_iff, or_false] at h
    rcases h with rfl | rfl
    · exact ⟨by simp, h0⟩
    · exact ⟨by simp [copyRow], h1⟩
  exact ⟨by simp [stripR], fun row h => (hall row h).1, fun row h t ht => ((hall row h).2 t ht).1, fun row h t ht => ((hall row h).2 t ht).2.1, fun row h t ht => ((hall row h).2 t ht).2.2⟩
theorem squeeze_len (zs some : List Nat) : (squeezeR zs some).length = zs.length + 1 := by simp [squeezeR]
theorem squeeze_ok (zs some : List Nat) : MachOk zs (squeezeR zs some) := by
  have hall : ∀ row ∈ squeezeR zs some, ∃ sl, row = turnsR zs sl := by
    intro row h
    rcases List.mem_cons.mp h with rfl | h
    · exact ⟨_, rfl⟩
    · obtain ⟨l, _, rfl⟩ := List.mem_map.mp h
      exact ⟨_, rfl⟩
  refine ⟨by rw [squeeze_len]; omega, fun row h => ?_, fun row h t ht => ?_, fun row h t ht => ?_, fun row h t ht => ?_⟩
  · obtain ⟨sl, rfl⟩ := hall row h
    simp [turnsR]
  · obtain ⟨sl, rfl⟩ := hall row h
    rw [squeeze_len]
    have := (turnsR_mem ht).1
    omega
  · obtain ⟨sl, rfl⟩ := hall row h
    exact (turnsR_mem ht).2.1
  · obtain ⟨sl, rfl⟩ := hall row h
    exact (turnsR_mem ht).2.2
end FX
set_option Elab.async false
set_option linter.all false
set_option maxRecDepth 100000
set_option maxHeartbeats 4000000
/-! own rules: enumerate over a text and over a tuple -/
namespace FX
open PySem PySem.Spec PyProof.Rows L2
theorem units1 {k : Nat} {A : Around} (r : Room k A) : A.units + 65 < cLine := by have := r.un; omega

set_option maxHeartbeats 1000000 in
theorem meets_enum1 {v : Value} {o : Obj} {H : Heap → Prop} (B : Begins v o H) :
    Meets (Builtin.«enumerate.__new__» ⟨[.type "enumerate", v], []⟩) (fun _ R s => H s.heap ∧
      R (.ok (.ret (.ref (s.heap.push o).objs.size))) { s with heap := (s.heap.push o).push { cls := .type "enumerate", data := .fields #[.none, .bool false, .ref s.heap.objs.size, rawInt 0, .none, .none] } }) :=
  .of_wp fun prog w A R s h => by
    obtain ⟨hp, g, d, tk, os⟩ := s; obtain ⟨h1, h⟩ := h
    have hsub := sub_enumerate
    have q1 : ∀ {A' : Around} {E : Value → Shared → Prop} {Q : Value → Shared → Prop}, Q (.ref hp.objs.size) ⟨hp.push o, g, d, tk, os⟩ → wpAny (model prog w) A' (pyIter v) Q E ⟨hp, g, d, tk, os⟩ :=
      fun q => B.iter prog w _ _ ⟨hp, g, d, tk, os⟩ _ h1 q
    wp_walk using q1
    refine wpAny_stack_any fun st => wpAny_pure ?_
    split
    · rename_i c _ _ _ _ _
      cases (c == Value.type "enumerate")
      · wp_walk using q1
        exact ⟨_, rfl, h⟩
      · wp_walk using q1
        exact ⟨_, rfl, h⟩
    · wp_walk using q1
      exact ⟨_, rfl, h⟩
section
variable {prog : Program} {w : World} {A : Around} {E : Value → Shared → Prop} {s : Shared}
theorem call_enum1 {v : Value} {o : Obj} {H : Heap → Prop} {Q : Value → Shared → Prop} (B : Begins v o H) (h1 : H s.heap)
    (h : ∀ h', IsEnum h' (s.heap.objs.size + 1) s.heap.objs.size 0 .none → h'.get? s.heap.objs.size = some o → h'.objs.size = s.heap.objs.size + 2 →
      (∀ b o, s.heap.get? b = some o → h'.get? b = some o) → Q (.ref (s.heap.objs.size + 1)) { s with heap := h' }) :
    wpAny (model prog w) A (call (.type "enumerate") [v]) Q E s := by
  refine callType_new F.called_enumerate (by decide) (F.typeCall_enumerate_1 _) (F.newCall_enumerate_1 _) (fun obj => F.args_object_init_2 obj _) F.entry_enumerate_new
    (meets_enum1 B) ⟨h1, ?_⟩
  have hz : (s.heap.push o).objs.size = s.heap.objs.size + 1 := Heap.size_push ..
  show _ ∧ _
  rw [hz]
  have he : IsEnum ((s.heap.push o).push { cls := .type "enumerate", data := .fields #[.none, .bool false, .ref s.heap.objs.size, rawInt 0, .none, .none] }) (s.heap.objs.size + 1) s.heap.objs.size 0 .none := by
    have := Heap.get?_push_size (s.heap.push o) (o := { cls := .type "enumerate", data := .fields #[.none, .bool false, .ref s.heap.objs.size, rawInt 0, .none, .none] }) rfl
    rw [hz] at this; exact this
  refine ⟨⟨_, he, rfl⟩, h _ he (Heap.get?_push_of_some _ (Heap.get?_push_size _ B.free)) (by rw [Heap.size_push, hz]) fun b o x => Heap.get?_push_of_some _ (Heap.get?_push_of_some _ x)⟩
end

/-! ### enumerate(text) -/
def Ites (x : Str) : It :=
  ⟨fun i _ => i < x.cps.size, fun i H v H' => ∃ T c, v = .ref T ∧ H T = none ∧ H' = upd H T (.tup [.int (i : Nat), .str ⟨#[c]⟩]) ∧ x.cps[i]? = some c, fun i _ => x.cps.size ≤ i⟩
theorem turn_enumS {P : Program} {w : World} {K : PySem.W.Frag} {elts : List Expr} {kk : Nat} {tpos : Pos} (e it : Addr) (x : Str) (t : Tok) :
    Turn P w K (.Tuple elts kk tpos) (Ites x) [e, it] e (fun i h => (∃ old, IsEnum h e it ((i : Nat) : Int) old) ∧ h.IsStrIter it (strIterType x) x t i ∧ e ≠ it) where
  mem := by simp
  obj := fun i h st b hb => by
    obtain ⟨⟨old, he⟩, ⟨o, ho, hc, hd⟩, _⟩ := st
    have e' : b = e ∨ b = it := by simpa using hb
    rcases e' with z | z
    · rw [z]; exact ⟨_, he, fun v q => nomatch q⟩
    · rw [z]; exact ⟨o, ho, fun v q => by rw [hd] at q; cases q⟩
  keep := fun i h h' st k => let ⟨⟨old, he⟩, ⟨o, ho, r⟩, hne⟩ := st; ⟨⟨old, k e (by simp) _ he⟩, ⟨o, k it (by simp) o ho, r⟩, hne⟩
  item := by
    intro X hP hw hK hc i pins s σ H E I hf st hg
    subst hP hw hK
    obtain ⟨⟨old, he⟩, hit, hne⟩ := st
    have hel : e < s.heap.objs.size := Heap.lt_size he
    have hil : it < s.heap.objs.size := by obtain ⟨_, q, _⟩ := hit; exact Heap.lt_size q
    have D := Draws.text (prog := X.prog) (w := X.w) (A := X.A.in1) (I.ok.hd hc) it x t
    refine wpAny_pyNext_enum_itemD D he hit hg hne (by simp [hne]) fun u h' tk hP ho hit' hT hsz hk => ?_
    obtain ⟨c, u', hcx, rfl⟩ := hP
    refine ⟨_, rfl, wpAny_letOwnedTupleGo_enum (s := { s with heap := h', toks := tk + 1 }) ho fun h'' he' sb => ?_⟩
    have hT2 : h''.get? s.heap.objs.size = some { cls := .type "tuple", data := .seq #[.int i tk, .str ⟨#[c]⟩ u'] } := (sb.2 _ (Nat.ne_of_gt hel)).trans hT
    have new : ObjOk X.prog X.w (upd H s.heap.objs.size (.tup [.int (i : Nat), .str ⟨#[c]⟩])) h'' s.heap.objs.size (.tup [.int (i : Nat), .str ⟨#[c]⟩]) :=
      ⟨by show 2 ≤ sizeLine; decide, [.int i tk, .str ⟨#[c]⟩ u'], .cons ⟨_, rfl⟩ (.cons ⟨_, rfl⟩ .nil), ⟨_, hT2, rfl, _, rfl⟩⟩
    have I1 : Inv X pins σ (upd H s.heap.objs.size (.tup [.int (i : Nat), .str ⟨#[c]⟩])) { s with heap := h'', toks := tk + 1 } :=
      I.turnedNew (ch := [e, it]) (fun b ob hb q => (sb.2 b (fun z => hb (by simp [z]))).trans (hk b ob (fun z => hb (by simp [z])) (fun z => hb (by simp [z])) q)) hf (Nat.le_refl _) new
    obtain ⟨oi, q1, q2, q3⟩ := hit'
    refine ⟨.ref s.heap.objs.size, _, I1, rfl, ⟨_, c, rfl, I.hok.fresh (Nat.le_refl _), rfl, hcx⟩, ⟨⟨.str ⟨#[c]⟩ u', ?_⟩, ⟨oi, (sb.2 it (Ne.symm hne)).trans q1, q2, q3⟩, hne⟩, fun b hb => ?_⟩
    · have e1 : ((i + 1 : Nat) : Int) = (i : Int) + 1 := by omega
      rw [e1]; exact he'
    · have hb' : b < s.heap.objs.size := by
        have e' : b = e ∨ b = it := by simpa using hb
        rcases e' with z | z
        · rw [z]; exact hel
        · rw [z]; exact hil
      rw [upd_ne (Nat.ne_of_lt hb')]
      exact (hf b hb).1
  done := by
    intro X hP hw hK hc i pins s σ H E I hf st hg
    subst hP hw hK
    obtain ⟨⟨old, he⟩, hit, hne⟩ := st
    obtain ⟨f0, f1, f2, f3, f4, f5⟩ := hf it (by simp)
    have hx : x.cps[i]? = none := Array.getElem?_eq_none hg
    have D : Draws X.prog X.w X.A.in1 it [it] i (fun _ _ => False) (fun j h => j = i ∧ h.IsStrIter it (strIterType x) x t i) := by
      refine ⟨fun j h st => let ⟨_, o, ho, _⟩ := st; ⟨o, ho⟩, fun j h h' st k => let ⟨e, o, ho, r⟩ := st; ⟨e, o, k it (by simp) o ho, r⟩, fun j s Q E hj st => absurd st.1 (Nat.ne_of_lt hj), fun s Q E st hE => ?_⟩
      have hh : X.A.in1.handled = none := I.ok.hd hc
      have st' := st.2
      unfold strIterType at st'
      cases ha : x.cps.all (· < 128)
      · rw [ha] at st'
        exact wpAny_nextOf_wide_end hh st' hx hE
      · rw [ha] at st'
        exact wpAny_nextOf_ascii_end hh st' hx hE
    exact wpAny_pyNext_enum_endD D he ⟨rfl, hit⟩ fun h' eb => ⟨rfl, I.turned (t' := s.toks) (fun b o hb q => eb b o hb q) f0 f1 f3 f4 f5⟩
  self := fun A i s Q E st h => let ⟨⟨_, he⟩, _⟩ := st; wpAny_pyIter_enum he h
def iEnumS (ta : TA) : TI := fun σ H R => ta σ H fun vs H1 => ∃ x, vs = [.str x] ∧ R (Ites x) H1
theorem pi_enumS {X : Cx} {e : Expr} {ta : TA} {p pos tpos : Pos} {elts : List Expr} {kk : Nat} (hg : Gl X "enumerate") (hm : X.mg "enumerate" = none) (ha : PA X [e] ta) (hs : starEach [e] X.env = [(false, eval e X.env)] := by rfl) :
    PI X (.Tuple elts kk tpos) (.Call (.Name "enumerate" p) [e] [] pos) (iEnumS ta) := by
  refine ⟨fun pins s σ H R I h => ?_⟩
  refine Call_ (ld_blt I hg hm boot_enumerate (PyProof.Rows.callWith_type1 (thn (ha.run pos pins s σ H _ I h) fun us s1 ⟨vs, H1, I1, r1, q1⟩ => ?_) hs rfl))
  obtain ⟨x, ex, q⟩ := q1
  subst ex
  cases r1 with
  | cons r rr =>
    cases rr
    obtain ⟨t, rfl⟩ := r
    refine call_enum1 (begins_text x t) trivial fun h' he hit hsz hk => wpAny_pyIter_enum he ?_
    have I2 : Inv X pins σ H1 { s1 with heap := h' } := I1.kept (t' := s1.toks) hk
    refine ⟨s1.heap.objs.size + 1, [s1.heap.objs.size + 1, s1.heap.objs.size], _, _, H1, rfl, I2, turn_enumS (s1.heap.objs.size + 1) s1.heap.objs.size x t, ⟨⟨.none, he⟩, ⟨_, hit, rfl, rfl⟩, Nat.succ_ne_self _⟩, fun b hb => ?_, q⟩
    have e' : b = s1.heap.objs.size + 1 ∨ b = s1.heap.objs.size := by simpa using hb
    have hle : s1.heap.objs.size ≤ b := by
      rcases e' with z | z
      · rw [z]; exact Nat.le_add_right _ _
      · rw [z]; exact Nat.le_refl _
    exact I1.fpOk hle (I1.hok.fresh hle)
theorem walk_enumS {z : Str} : Walk (Ites z) z.cps.size (fun _ => True) (fun i H v H' => ∃ T c, v = .ref T ∧ H T = none ∧ H' = upd H T (.tup [.int (i : Nat), .str ⟨#[c]⟩]) ∧ z.cps[i]? = some c) :=
  ⟨fun _ _ hi _ => hi, fun _ _ => Nat.le_refl _, fun _ _ _ _ _ _ y => y⟩

/-! ### enumerate(tuple) -/
def Itet (K : PySem.W.Frag) (a : Addr) : It :=
  ⟨fun i H => ∃ (xs : List V) (x : V), SqT K H a xs ∧ xs[i]? = some x, fun i H v H' => ∃ T x, v = .ref T ∧ H T = none ∧ H' = upd H T (.tup [.int (i : Nat), x]) ∧ ∀ xs, SqT K H a xs → xs[i]? = some x, fun i H => ∃ xs : List V, SqT K H a xs ∧ xs.length ≤ i⟩
theorem turn_enumT {P : Program} {w : World} {K : PySem.W.Frag} {elts : List Expr} {kk : Nat} {tpos : Pos} (a e it : Addr) :
    Turn P w K (.Tuple elts kk tpos) (Itet K a) [e, it] e (fun i h => (∃ old, IsEnum h e it ((i : Nat) : Int) old) ∧ h.IsTupleIter it a i ∧ e ≠ it) where
  mem := by simp
  obj := fun i h st b hb => by
    obtain ⟨⟨old, he⟩, ⟨o, ho, hc, hd⟩, _⟩ := st
    have e' : b = e ∨ b = it := by simpa using hb
    rcases e' with z | z
    · rw [z]; exact ⟨_, he, fun v q => nomatch q⟩
    · rw [z]; exact ⟨o, ho, fun v q => by rw [hd] at q; cases q⟩
  keep := fun i h h' st k => let ⟨⟨old, he⟩, hi, hne⟩ := st; ⟨⟨old, k e (by simp) _ he⟩, hi.at fun o q => k it (by simp) o q, hne⟩
  item := by
    intro X hP hw hK hc i pins s σ H E I hf st hg
    subst hP hw hK
    obtain ⟨⟨old, he⟩, hit, hne⟩ := st
    obtain ⟨xs, x, hq, hx⟩ := hg
    obtain ⟨its, rv, p, hz⟩ := I.tuple hq
    obtain ⟨u, hu, ru⟩ := rv.get hx
    have hel : e < s.heap.objs.size := Heap.lt_size he
    have hil : it < s.heap.objs.size := by obtain ⟨_, q, _⟩ := hit; exact Heap.lt_size q
    have hai : a ≠ it := by
      intro z
      obtain ⟨o1, g1, c1, _⟩ := hit
      obtain ⟨o2, g2, c2, _⟩ := p
      rw [z, g1] at g2
      cases g2
      rw [c1] at c2
      injection c2 with c3
      exact absurd c3 (by decide)
    have D := Draws.tuple (prog := X.prog) (w := X.w) (A := X.A.in1) (I.ok.hd hc) it a hai its.toArray
    have hne' : e ≠ a := by
      intro z
      obtain ⟨o2, g2, c2, _⟩ := p
      have he' : s.heap.get? e = _ := he
      rw [← z, he'] at g2
      cases g2
      injection c2 with c3
      exact absurd c3 (by decide)
    have hlt : i < its.toArray.size := by
      have q := List.getElem?_eq_some_iff.mp hu
      simpa using q.1
    refine wpAny_pyNext_enum_itemD D he ⟨hit, (show s.heap.IsTuple a its.toArray from p)⟩ hlt hne (by simp [hne, hne']) fun x' h' tk hP ho hit' hT hsz hk => ?_
    have ex : x' = u := by
      have q : its.toArray[i]? = some u := by simpa using hu
      exact Option.some.inj (hP.symm.trans q)
    subst ex
    refine ⟨_, rfl, wpAny_letOwnedTupleGo_enum (s := { s with heap := h', toks := tk + 1 }) ho fun h'' he' sb => ?_⟩
    have hT2 : h''.get? s.heap.objs.size = some { cls := .type "tuple", data := .seq #[.int i tk, x'] } := (sb.2 _ (Nat.ne_of_gt hel)).trans hT
    have new : ObjOk X.prog X.w (upd H s.heap.objs.size (.tup [.int (i : Nat), x])) h'' s.heap.objs.size (.tup [.int (i : Nat), x]) :=
      ⟨by show 2 ≤ sizeLine; decide, [.int i tk, x'], .cons ⟨_, rfl⟩ (.cons ru .nil), ⟨_, hT2, rfl, _, rfl⟩⟩
    have I1 : Inv X pins σ (upd H s.heap.objs.size (.tup [.int (i : Nat), x])) { s with heap := h'', toks := tk + 1 } :=
      I.turnedNew (ch := [e, it]) (fun b ob hb q => (sb.2 b (fun z => hb (by simp [z]))).trans (hk b ob (fun z => hb (by simp [z])) (fun z => hb (by simp [z])) q)) hf (Nat.le_refl _) new
    refine ⟨.ref s.heap.objs.size, _, I1, rfl, ⟨_, x, rfl, I.hok.fresh (Nat.le_refl _), rfl, fun ys hy => by rw [I.tuple_inj hy hq]; exact hx⟩, ⟨⟨x', ?_⟩, hit'.1.at fun o q => (sb.2 it (Ne.symm hne)).trans q, hne⟩, fun b hb => ?_⟩
    · have e1 : ((i + 1 : Nat) : Int) = (i : Int) + 1 := by omega
      rw [e1]; exact he'
    · have hb' : b < s.heap.objs.size := by
        have e' : b = e ∨ b = it := by simpa using hb
        rcases e' with z | z
        · rw [z]; exact hel
        · rw [z]; exact hil
      rw [upd_ne (Nat.ne_of_lt hb')]
      exact (hf b hb).1
  done := by
    intro X hP hw hK hc i pins s σ H E I hf st hg
    subst hP hw hK
    obtain ⟨⟨old, he⟩, hit, hne⟩ := st
    obtain ⟨xs, hq, hx⟩ := hg
    obtain ⟨its, rv, p, hz⟩ := I.tuple hq
    obtain ⟨f0, f1, f2, f3, f4, f5⟩ := hf it (by simp)
    have hl := rv.length
    have D : Draws X.prog X.w X.A.in1 it [it, a] i (fun _ _ => False) (fun j h => j = i ∧ h.IsTupleIter it a i ∧ h.IsTuple a its.toArray) := by
      refine ⟨fun j h st => let ⟨_, ⟨o, ho, _⟩, _⟩ := st; ⟨o, ho⟩, fun j h h' st k => ⟨st.1, st.2.1.at fun o e => k it (by simp) o e, st.2.2.at fun o e => k a (by simp) o e⟩, fun j s Q E hj st => absurd st.1 (Nat.ne_of_lt hj), fun s Q E st hE => ?_⟩
      exact wpAny_nextOf_tuple_end (I.ok.hd hc) st.2.1 st.2.2 (by simp; omega) hE
    exact wpAny_pyNext_enum_endD D he ⟨rfl, hit, (show s.heap.IsTuple a its.toArray from p)⟩ fun h' eb => ⟨rfl, I.turned (t' := s.toks) (fun b o hb q => eb b o hb q) f0 f1 f3 f4 f5⟩
  self := fun A i s Q E st h => let ⟨⟨_, he⟩, _⟩ := st; wpAny_pyIter_enum he h
def iEnumT (K : PySem.W.Frag) (ta : TA) : TI := fun σ H R => ta σ H fun vs H1 => ∃ a xs, vs = [.ref a] ∧ SqT K H1 a xs ∧ R (Itet K a) H1
theorem pi_enumT {X : Cx} {e : Expr} {ta : TA} {p pos tpos : Pos} {elts : List Expr} {kk : Nat} (hg : Gl X "enumerate") (hm : X.mg "enumerate" = none) (ha : PA X [e] ta) (hs : starEach [e] X.env = [(false, eval e X.env)] := by rfl) :
    PI X (.Tuple elts kk tpos) (.Call (.Name "enumerate" p) [e] [] pos) (iEnumT X.K ta) := by
  refine ⟨fun pins s σ H R I h => ?_⟩
  refine Call_ (ld_blt I hg hm boot_enumerate (PyProof.Rows.callWith_type1 (thn (ha.run pos pins s σ H _ I h) fun us s1 ⟨vs, H1, I1, r1, q1⟩ => ?_) hs rfl))
  obtain ⟨a, xs, ex, hq, q⟩ := q1
  subst ex
  cases r1 with
  | cons r rr =>
    cases rr
    cases r
    obtain ⟨its, rv, p', hz⟩ := I1.tuple hq
    refine call_enum1 (begins_tuple a its.toArray) (show s1.heap.IsTuple a its.toArray from p') fun h' he hit hsz hk => wpAny_pyIter_enum he ?_
    have I2 : Inv X pins σ H1 { s1 with heap := h' } := I1.kept (t' := s1.toks) hk
    refine ⟨s1.heap.objs.size + 1, [s1.heap.objs.size + 1, s1.heap.objs.size], _, _, H1, rfl, I2, turn_enumT a (s1.heap.objs.size + 1) s1.heap.objs.size, ⟨⟨.none, he⟩, ⟨_, hit, rfl, rfl⟩, Nat.succ_ne_self _⟩, fun b hb => ?_, q⟩
    have e' : b = s1.heap.objs.size + 1 ∨ b = s1.heap.objs.size := by simpa using hb
    have hle : s1.heap.objs.size ≤ b := by
      rcases e' with z | z
      · rw [z]; exact Nat.le_add_right _ _
      · rw [z]; exact Nat.le_refl _
    exact I1.fpOk hle (I1.hok.fresh hle)
theorem walk_enumT {K : PySem.W.Frag} {a : Addr} {xs : List V} : Walk (Itet K a) xs.length (fun H => SqT K H a xs) (YPair (fun i => some (.int (i : Nat))) (fun i => xs[i]?)) := by
  refine ⟨fun i _ hi q => ⟨xs, xs[i], q, by simp [hi]⟩, fun _ q => ⟨xs, q, Nat.le_refl _⟩, fun i H v H' _ q y => ?_⟩
  obtain ⟨T, x, h1, h2, h3, h4⟩ := y
  exact ⟨T, .int (i : Nat), x, h1, h2, h3, rfl, h4 xs q⟩
end FX
set_option Elab.async false
set_option linter.all false
set_option maxRecDepth 100000
set_option maxHeartbeats 8000000
/-! own rule: set(xs) of a list of whole numbers, so that sorted(..) can go on from it -/
namespace FX
open PySem PySem.Spec PyProof.Rows L2
def noSet (w : World) : Obj := { cls := .type "set", dict := none, data := .set #[] 0 (.fresh 0 0 (!w.params.followText "set-order")) }
/-- what is left when the set of ks stands at the top of the heap of s -/
def Laid (w : World) (s : Shared) (ks : List Int) (s2 : Shared) : Prop :=
  ∃ (hp : Heap) (tk c : Nat), s2 = { s with heap := hp, toks := tk } ∧ SetR w hp s.heap.objs.size (fun j => decide (j ∈ ks)) c ∧ c ≤ ks.length ∧ ∀ b o, s.heap.get? b = some o → hp.get? b = some o
section
variable {P : Program} {w : World} {A : Around} {E : Value → Shared → Prop} {s : Shared}
theorem ints_get {xs : Array Value} {ks : List Int} (are : IntsAre xs.toList ks) : ∀ (i : Nat) (v : Value), xs[i]? = some v → ∃ k t, ks[i]? = some k ∧ v = .int k t := fun i v e => by
  have e' : xs.toList[i]? = some v := (Array.getElem?_toList ..).trans e
  have hi : i < ks.length := by rw [← IntsAre.length are]; exact (List.getElem?_eq_some_iff.mp e').1
  obtain ⟨t, q⟩ := IntsAre.int_at are i v e'
  exact ⟨ks[i], t, List.getElem?_eq_getElem hi, by rw [q, List.getD_eq_getElem?_getD, List.getElem?_eq_getElem hi]; rfl⟩
set_option maxHeartbeats 6400000 in
/-- set.__init__ of the new set and a list -/
theorem init_list {p : Addr} {xs : Array Value} (ks : List Int) {R : Result → Shared → Prop} (nh : A.handled = none) (isl : s.heap.IsList p xs) (are : IntsAre xs.toList ks) (few : ks.length + 1 < scanBound)
    (done : ∀ s2, Laid w s ks s2 → R (.ok (.ret .none)) s2) :
    wpAny (model P w) A.in1 (Builtin.«set.__init__» ⟨[.ref s.heap.objs.size, .ref p], []⟩)
      (fun fin s' => match fin with | .done f => R (.ok f) s' | .again c' => c'.quiet = true ∧ codeAny (model P w) A c' R s') (fun e s' => R (.error e) s') { s with heap := s.heap.push (noSet w) } := by
  have sz : xs.size = ks.length := (Array.length_toList).symm.trans (IntsAre.length are)
  have z1 : (s.heap.push (noSet w)).objs.size = s.heap.objs.size + 1 := Heap.size_push ..
  have gS : (s.heap.push (noSet w)).get? s.heap.objs.size = some (noSet w) := Heap.get?_push_size _ rfl
  have isl2 : (s.heap.push (noSet w)).IsList p xs := isl.push _
  obtain ⟨⟨oc, od, oa, os⟩, go, hc, nn, hd⟩ := isl
  simp only at hc hd
  subst hc; subst hd
  have pl : p < s.heap.objs.size := Heap.lt_size go
  have go2 : (s.heap.push (noSet w)).get? p = some { cls := .type "list", dict := od, data := .seq xs nn, slots := os } := Heap.get?_push_of_some _ go
  have u1 := F.sub_list_set; have u2 := F.sub_list_frozenset
  have u3 : (Value.type "list" == Value.type "dict") = false := by decide
  unfold Builtin.«set.__init__» noKeywords Builtin.Frozenset.updateFrom
  generalize hI : pyIter = PI
  wp_walk
  subst hI
  refine wpAny_pyIter_list isl2 (wpAny_bind (wpAny_runValue ?_))
  have ne1 : p ≠ (s.heap.push (noSet w)).objs.size := fun e => absurd (e ▸ z1 : p = s.heap.objs.size + 1) (Nat.ne_of_lt (Nat.lt_succ_of_lt pl))
  have nf : s.heap.objs.size ∉ [(s.heap.push (noSet w)).objs.size, p] := fun m => by
    rcases List.mem_cons.mp m with m | m
    · rw [z1] at m; exact absurd m (Nat.ne_of_lt (Nat.lt_succ_self _))
    · exact absurd (List.mem_singleton.mp m) (Nat.ne_of_gt pl)
  refine set_update_ints ((Walks.list (by simp [nh]) _ p ne1 xs).toS) s.heap.objs.size nf ks sz few (ints_get are) (xs.size - 0) 0 _ (by omega) (Nat.zero_le _)
    ⟨⟨_, Heap.get?_push_size _ rfl, rfl, rfl⟩, isl2.push _⟩ ?_ ?_
  · have g3 : ((s.heap.push (noSet w)).push { cls := .type "list_iterator", data := .fields #[.ref p, .int 0 0] }).get? s.heap.objs.size = some (noSet w) := Heap.get?_push_of_some _ gS
    exact ⟨0, Nat.le_refl 0, setR_new_at g3⟩
  intro s2 c mv hcn hS
  obtain ⟨hp, g2, d2, tk, o2⟩ := s2
  have e1 : g2 = s.gens := mv.gens
  have e2 : d2 = s.drawn := mv.drawn
  have e3 : o2 = s.os := mv.os
  subst e1; subst e2; subst e3
  show wpAny _ _ _ _ _ _
  refine wpAny_pure (?_ : wpAny _ _ (ret Value.none) _ _ _)
  rw [sz] at hcn
  refine wpAny_pure (done _ ⟨hp, tk, c, rfl, hS, hcn, fun b o e => ?_⟩)
  have lb : b < s.heap.objs.size := Heap.lt_size e
  refine mv.heap b o (fun m => ?_) (Heap.get?_push_of_some _ (Heap.get?_push_of_some _ e))
  rcases List.mem_cons.mp m with m | m
  · exact absurd m (Nat.ne_of_lt lb)
  · have m := List.mem_singleton.mp m
    rw [z1] at m
    exact absurd m (Nat.ne_of_lt (Nat.lt_succ_of_lt lb))
set_option maxHeartbeats 6400000 in
/-- set(xs) -/
theorem call_set_of {p : Addr} {xs : Array Value} (ks : List Int) {Q : Value → Shared → Prop} (nh : A.handled = none) (isl : s.heap.IsList p xs) (are : IntsAre xs.toList ks) (few : ks.length + 1 < scanBound)
    (go : ∀ s2, Laid w s ks s2 → Q (.ref s.heap.objs.size) s2) : wpAny (model P w) A (call (.type "set") [.ref p]) Q E s := by
  obtain ⟨c, tl, l1⟩ := F.called_set.mro
  have l2 := F.called_set.made; have l3 := F.called_set.sub; have l4 := F.called_set.notType; have l5 := F.called_set.canCreate
  have l6 := F.typeCall_set_1 (.ref p)
  refine wpAny_call (codeAny_of_tree (?_ : wpAny _ _ (callAny (.type "set") _) _ _ _))
  refine wpAny_pure ⟨Code.quiet_builtin _ (by decide +kernel), codeAny_builtin F.entry_type_call (?_ : wpAny _ _ _ _ _ _)⟩
  rw [Around.under_plain (weight_type_call_type "set" [.ref p] []) rfl]
  repeat (any_goals (first | wp_step | assumption))
  refine codeAny_mono (code_set_led1 (.ref p) (E := E) (Q₁ := fun r s1 => r = .ref s.heap.objs.size ∧ s1 = { s with heap := s.heap.push (noSet w) }) ⟨rfl, rfl⟩) fun r s1 hr => ?_
  match r, hr with
  | .error e, hr => exact hr
  | .ok (.ret _), ⟨e1, e2⟩ =>
    subst e1; subst e2
    have gS : (s.heap.push (noSet w)).get? s.heap.objs.size = some (noSet w) := Heap.get?_push_size _ rfl
    have isT : Shared.TypeIs { s with heap := s.heap.push (noSet w) } (.ref s.heap.objs.size) "set" := ⟨_, gS, rfl⟩
    have l7 := F.called_set.init.lookup
    have l8 := F.called_set.init.bind (.ref s.heap.objs.size)
    repeat (any_goals (first | wp_step | assumption))
    refine codeAny_mono (codeAny_call_builtin (R := wants (fun r s2 => r = .none ∧ Laid w s ks s2) E) F.called_set.init.plain F.entry_set_init (check_set_init_1 isT (init_list (A := A.in1) (R := wants (fun r s2 => r = .none ∧ Laid w s ks s2) E) ks (by simp [nh]) isl are few fun s2 h => (⟨rfl, h⟩ : Value.none = .none ∧ Laid w s ks s2)))) fun r s2 hr => ?_
    match r, hr with
    | .error e, hr => exact hr
    | .ok (.ret _), ⟨e1, h⟩ =>
      subst e1
      repeat (any_goals (first | wp_step | assumption))
      exact go _ h
end
section
variable {X : Cx}
/-- set(xs) of a list of whole numbers -/
def rSetL (K : PySem.W.Frag) (w : World) : List V → Hp → VK → Prop := fun vs H Q => ∃ (a : Addr) (ns : List Int), vs = [.ref a] ∧ SqL K H a (ns.map V.int) ∧ ns.length ≤ 60 ∧
  ∀ p c, H p = none → c ≤ ns.length → Q (.ref p) (upd H p (SetO w p (fun k => decide (k ∈ ns)) c))
theorem cr_setL (hc : X.calm = true) : CallR X (.type "set") (rSetL X.K X.w) := by
  intro pins s σ H vs us Q I r h
  obtain ⟨a, ns, rfl, ha, hl, q⟩ := h
  rw [Vals.ref1 r]
  obtain ⟨its, rv, pl, _⟩ := I.list ha
  refine call_set_of ns (I.ok.hd hc) pl.isList (ints_of_vals rv) (Nat.lt_of_le_of_lt (Nat.succ_le_succ hl) (by unfold scanBound; omega)) fun s2 h => ?_
  obtain ⟨hp, tk, c, rfl, hS, hcn, hk⟩ := h
  exact ⟨.ref _, _, I.laid (t' := tk) hk (Nat.le_refl _) (setO_new hS), rfl, q _ c (I.hok.fresh (Nat.le_refl _)) hcn⟩
/-- one sign, five times -/
theorem op_mulS : OpR X (binaryOp .Mult) (fun x y H Q => ∃ c, x = .str (⟨#[c]⟩ : Str) ∧ y = .int 5 ∧ Q (.str ⟨#[c, c, c, c, c]⟩) H) := by
  intro pins s σ H x y v u Q I rx ry h
  obtain ⟨c, rfl, rfl, q⟩ := h
  obtain ⟨t, rfl⟩ := rx
  obtain ⟨t', rfl⟩ := ry
  refine P.mul_str (by decide) (fun _ _ => ?_) (fun _ _ => ?_) ?_
  · show ¬ ((1 : Nat) : Int) > (2 ^ 63 - 1) / 5
    decide
  · show Builtin.Str.tooLong (1 * 5) = false
    decide +kernel
  · rw [if_neg (by decide), if_neg (show ¬ (((5 : Int) == 1 || (⟨#[c]⟩ : Str).length == 0) = true) from fun h => Bool.false_ne_true h)]
    exact ⟨by show 5 ≤ sizeLine; decide, .str ⟨#[c, c, c, c, c]⟩, H, I.tok _, ⟨_, rfl⟩, q⟩
end
end FX
set_option Elab.async false
set_option linter.all false
set_option maxRecDepth 100000
set_option maxHeartbeats 4000000
namespace FX
open PySem PySem.Spec PyProof.Rows L2
/-! ### heaps -/
theorem same_upd {H : Hp} {p : Addr} {o : HO} (h : H p = none) : Same H (upd H p o) := fun b x e => by
  rw [upd_ne (ne_of_none e h)]
  exact e
theorem Same.up {H H1 : Hp} {p : Addr} {o : HO} (s : Same H H1) (h : H1 p = none) : Same H (upd H1 p o) := s.trans (same_upd h)
/-- a store to an object that is new since H -/
theorem Same.set {H H1 : Hp} {p : Addr} {o : HO} (s : Same H H1) (h : H p = none) : Same H (upd H1 p o) := fun b x e => by
  rw [upd_ne (ne_of_none e h)]
  exact s b x e
theorem SqT.same {K : PySem.W.Frag} {H H' : Hp} {a : Addr} {xs : List V} (e : Same H H') (h : SqT K H a xs) : SqT K H' a xs := SqT.ext h e
mutual
theorem Dp.same {K : PySem.W.Frag} {H H' : Hp} (e : Same H H') : ∀ {v : V} {d : PyData}, Dp K H v d → Dp K H' v d
  | _, _, .non => .non
  | _, _, .bl b => .bl b
  | _, _, .int i => .int i
  | _, _, .str x => .str x
  | _, _, .lst hs ha => .lst (e.seq hs) (DpAll.same e ha)
  | _, _, .tup hs ha => .tup (SqT.same e hs) (DpAll.same e ha)
theorem DpAll.same {K : PySem.W.Frag} {H H' : Hp} (e : Same H H') : ∀ {vs : List V} {ds : List PyData}, DpAll K H vs ds → DpAll K H' vs ds
  | _, _, .nil => .nil
  | _, _, .cons h t => .cons (Dp.same e h) (DpAll.same e t)
end
section
variable {K : PySem.W.Frag} {H : Hp}
theorem DpAll.len {vs : List V} {ds : List PyData} (h : DpAll K H vs ds) : vs.length = ds.length := by
  induction vs generalizing ds with
  | nil => cases h; rfl
  | cons v vs ih => cases h with | cons a b => rw [List.length_cons, List.length_cons, ih b]
theorem DpAll.get {vs : List V} {ds : List PyData} (h : DpAll K H vs ds) {i : Nat} {d : PyData} (e : ds[i]? = some d) : ∃ v, vs[i]? = some v ∧ Dp K H v d := by
  induction vs generalizing ds i with
  | nil => cases h; simp at e
  | cons v vs ih =>
    cases h with
    | cons a b =>
      cases i with
      | zero => simp at e; subst e; exact ⟨v, rfl, a⟩
      | succ i => simp at e; simpa using ih b e
theorem DpAll.get' {vs : List V} {ds : List PyData} (h : DpAll K H vs ds) {i : Nat} {v : V} (e : vs[i]? = some v) : ∃ d, ds[i]? = some d ∧ Dp K H v d := by
  induction vs generalizing ds i with
  | nil => simp at e
  | cons w vs ih =>
    cases h with
    | cons a b =>
      cases i with
      | zero => simp at e; subst e; exact ⟨_, rfl, a⟩
      | succ i => simp at e; simpa using ih b e
theorem DpAll.app {vs : List V} {ds : List PyData} (h : DpAll K H vs ds) {ws : List V} {es : List PyData} (h2 : DpAll K H ws es) : DpAll K H (vs ++ ws) (ds ++ es) := by
  induction vs generalizing ds with
  | nil => cases h; exact h2
  | cons v vs ih => cases h with | cons a b => exact .cons a (ih b)
theorem DpAll.one {v : V} {d : PyData} (h : Dp K H v d) : DpAll K H [v] [d] := .cons h .nil
theorem Dp.tupOf {v : V} {ds : List PyData} (h : Dp K H v (.tuple ds)) : ∃ a xs, v = .ref a ∧ SqT K H a xs ∧ DpAll K H xs ds := by
  cases h with | tup hs ha => exact ⟨_, _, rfl, hs, ha⟩
theorem Dp.lstOf {v : V} {ds : List PyData} (h : Dp K H v (.list ds)) : ∃ a xs, v = .ref a ∧ SqL K H a xs ∧ DpAll K H xs ds := by
  cases h with | lst hs ha => exact ⟨_, _, rfl, hs, ha⟩
theorem Dp.intOf {v : V} {i : Int} (h : Dp K H v (.int i)) : v = .int i := by cases h; rfl
theorem Dp.strOf {v : V} {s : Str} (h : Dp K H v (.str s)) : v = .str s := by cases h; rfl
theorem Dp.tupNew {p : Addr} {xs : List V} {ds : List PyData} (hp : H p = some (.tup xs)) (h : DpAll K H xs ds) : Dp K H (.ref p) (.tuple ds) := .tup (.inl (.inl hp)) h
theorem Dp.lstNew {p : Addr} {xs : List V} {ds : List PyData} (hp : H p = some (.lst xs)) (h : DpAll K H xs ds) : Dp K H (.ref p) (.list ds) := .lst (.inl (.inl hp)) h
theorem dpInts : ∀ ns : List Int, DpAll K H (ns.map V.int) (ns.map PyData.int)
  | [] => .nil
  | n :: r => .cons (.int n) (dpInts r)
end
/-! ### a heap without some of its objects -/
def hid (ls : List Addr) (H : Hp) : Hp := fun b => if b ∈ ls then none else H b
theorem hid_out {ls : List Addr} {H : Hp} {b : Addr} (h : b ∉ ls) : hid ls H b = H b := if_neg h
theorem hid_sub (ls : List Addr) (H : Hp) : Same (hid ls H) H := fun b o e => by
  unfold hid at e
  split at e
  · cases e
  · exact e
theorem hid_same {ls : List Addr} {H H' : Hp} (h : ∀ b o, b ∉ ls → H b = some o → H' b = some o) : Same (hid ls H) (hid ls H') := fun b o e => by
  unfold hid at e ⊢
  split at e
  · cases e
  · rename_i hb
    rw [if_neg hb]
    exact h b o hb e
theorem hid_upd {ls : List Addr} {H : Hp} {l : Addr} {o : HO} (h : l ∈ ls) : hid ls (upd H l o) = hid ls H := by
  funext b
  unfold hid
  split
  · rfl
  · rename_i hb
    exact upd_ne fun e => hb (e ▸ h)
theorem hid_up {ls : List Addr} {H : Hp} {p : Addr} {o : HO} (h : H p = none) : Same (hid ls H) (hid ls (upd H p o)) := hid_same fun b x _ e => same_upd h b x e
/-- what is new since H -/
def New (H H' : Hp) : Hp := fun b => if H b = none then H' b else none
theorem new_sub (H H' : Hp) : Same (New H H') H' := fun b o e => by
  unfold New at e
  split at e
  · exact e
  · cases e
theorem new_hid {H H' : Hp} {ls : List Addr} (h : ∀ l ∈ ls, H l ≠ none) : Same (New H H') (hid ls H') := fun b o e => by
  unfold New at e
  split at e
  · rename_i hb
    rw [hid_out fun q => h b q hb]
    exact e
  · cases e
theorem new_mono {H H1 H2 H3 : Hp} (a : Same H H1) (b : Same H2 H3) : Same (New H1 H2) (New H H3) := fun x o e => by
  unfold New at e ⊢
  split at e
  · rename_i hx
    rw [if_pos (a.free hx)]
    exact b x o e
  · cases e
theorem new_at {H H' : Hp} {p : Addr} {o : HO} (h : H p = none) (h' : H' p = some o) : New H H' p = some o := by
  unfold New
  rw [if_pos h]
  exact h'
theorem new_trans {H H1 H2 : Hp} (b : Same H1 H2) : Same (New H H1) (New H H2) := new_mono (Same.refl H) b
/-- a comprehension that keeps every item: what each item is, of the heap without the list that grows -/
theorem lc_rel {J : It} {n : Nat} {G : Hp → Prop} {Y : Nat → Hp → V → Hp → Prop} (w : Walk J n G Y) {g : TG} {tt : TT} {te : TE} {vs : List Nat} {σ : L2.St} {H1 : Hp} {D : Addr} {Qd : Hp → Prop}
    (R : Nat → V → Hp → Prop) (hR : ∀ j v H H', Same H H' → R j v H → R j v H') (hD : H1 D = none) (hn : n < sizeLine) (hG : ∀ H, Same H1 H → G H)
    (hs : ∀ i x H H', i < n → Same H1 H → (∃ o, H D = some o) → Y i H x H' → (∀ y H4, Same H H4 → R i y (hid [D] H4) → ∃ acc, H4 D = some (.lst acc) ∧ acc.length < sizeLine ∧
        (Same H1 (upd H4 D (.lst (acc ++ [y]))) ∧ ∃ xs, upd H4 D (.lst (acc ++ [y])) D = some (.lst xs) ∧ xs.length = i + 1 ∧ ∀ j v, xs[j]? = some v → R j v (hid [D] (upd H4 D (.lst (acc ++ [y])))))) →
      g x (wipe σ vs) H' fun σ2 H2 => wipe σ2 vs = wipe σ vs ∧ tt σ2 H2 fun b H3 =>
      if b = true then te σ2 H3 fun y H4 => ∃ acc, H4 D = some (.lst acc) ∧ acc.length < sizeLine ∧
        (Same H1 (upd H4 D (.lst (acc ++ [y]))) ∧ ∃ xs, upd H4 D (.lst (acc ++ [y])) D = some (.lst xs) ∧ xs.length = i + 1 ∧ ∀ j v, xs[j]? = some v → R j v (hid [D] (upd H4 D (.lst (acc ++ [y])))))
      else (Same H1 H3 ∧ ∃ xs, H3 D = some (.lst xs) ∧ xs.length = i + 1 ∧ ∀ j v, xs[j]? = some v → R j v (hid [D] H3)))
    (hd : ∀ H xs, Same H1 H → H D = some (.lst xs) → xs.length = n → (∀ j v, xs[j]? = some v → R j v (hid [D] H)) → Qd H) :
    ∃ W : Nat → Nat → Hp → Prop, (∃ m, W 0 m (upd H1 D (.lst []))) ∧ ∀ i m H, W i m H →
      (J.stop i H ∧ Qd H) ∨ (J.go i H ∧ ∃ Nx : Hp → Prop, (∀ H', Nx H' → ∃ m', m' < m ∧ W (i + 1) m' H') ∧ ∀ x H', J.yld i H x H' → g x (wipe σ vs) H' fun σ2 H2 => wipe σ2 vs = wipe σ vs ∧ tt σ2 H2 fun b H3 =>
        if b = true then te σ2 H3 fun y H4 => ∃ acc, H4 D = some (.lst acc) ∧ acc.length < sizeLine ∧ Nx (upd H4 D (.lst (acc ++ [y]))) else Nx H3) := by
  refine lc_it w (fun i H => Same H1 H ∧ ∃ xs, H D = some (.lst xs) ∧ xs.length = i ∧ ∀ j v, xs[j]? = some v → R j v (hid [D] H)) ⟨same_upd hD, [], upd_same, rfl, fun j v h => by simp at h⟩ (fun i H _ h => hG H h.1) ?_ ?_
  · rintro i x H H' hi ⟨sm, xs, hx, hl, hr⟩ y
    refine hs i x H H' hi sm ⟨_, hx⟩ y fun y H4 s4 r4 => ?_
    have h4 := s4 _ _ hx
    refine ⟨xs, h4, by omega, fun b o e => ?_, xs ++ [y], upd_same, by simp [hl], fun j v hj => ?_⟩
    · rw [upd_ne (ne_of_none e hD)]
      exact s4 _ _ (sm _ _ e)
    · rw [hid_upd List.mem_cons_self]
      by_cases hlt : j < xs.length
      · rw [List.getElem?_append_left hlt] at hj
        exact hR j v _ _ (hid_same fun b o _ e => s4 b o e) (hr j v hj)
      · have hj' : j = xs.length := by
          have q := (List.getElem?_eq_some_iff.mp hj).1
          simp at q
          omega
        subst hj'
        rw [List.getElem?_append_right (Nat.le_refl _)] at hj
        simp at hj
        subst hj
        rw [hl]
        exact r4
  · rintro H ⟨sm, xs, hx, hl, hr⟩
    exact hd H xs sm hx hl hr
/-- items that are data, one by one -/
theorem dpAll_of {K : PySem.W.Frag} {H : Hp} : ∀ {xs : List V} {ds : List PyData}, xs.length = ds.length → (∀ (j : Nat) v d, xs[j]? = some v → ds[j]? = some d → Dp K H v d) → DpAll K H xs ds
  | [], [], _, _ => .nil
  | x :: xs, d :: ds, hl, h => .cons (h 0 x d rfl rfl) (dpAll_of (by simpa using hl) fun j v e h1 h2 => h (j + 1) v e (by simpa using h1) (by simpa using h2))
  | [], _ :: _, hl, _ => by simp at hl
  | _ :: _, [], hl, _ => by simp at hl
/-! ### what a machine is, as data -/
def S (l : List Nat) : Str := ⟨l.toArray⟩
def turnD (t : Nat × List Nat) : PyData := .tuple [.int t.1, .str (S t.2)]
def rowD (r : List (Nat × List Nat)) : PyData := .tuple (r.map turnD)
def rowsD (R : Rows) : PyData := .tuple (R.map rowD)
/-! ### what isinstance tells of data -/
def tyD : PyData → Option String
  | .none => some "NoneType"
  | .bool _ => some "bool"
  | .int _ => some "int"
  | .str _ => some "str"
  | .list _ => some "list"
  | .tuple _ => some "tuple"
  | _ => Option.none
theorem SqT.tyX {K : PySem.W.Frag} {H : Hp} {a : Addr} {xs : List V} (h : SqT K H a xs) : TyX K H (.ref a) (.type "tuple") := by
  rcases h with (h | ⟨o, h⟩) | ⟨o, its, n, h, hc, _⟩
  · exact .base (.tup h)
  · exact .fTuple h
  · exact .kTuple h hc
theorem SqL.tyX {K : PySem.W.Frag} {H : Hp} {a : Addr} {xs : List V} (h : SqL K H a xs) : TyX K H (.ref a) (.type "list") := by
  rcases h with (h | ⟨o, h⟩) | ⟨o, its, n, h, hc, _⟩
  · exact .base (.lst h)
  · exact .base (.frz h)
  · exact .kList h hc
theorem Dp.ty {K : PySem.W.Frag} {H : Hp} {v : V} {d : PyData} (h : Dp K H v d) : ∃ t, tyD d = some t ∧ TyX K H v (.type t) := by
  cases h with
  | non => exact ⟨_, rfl, .base .non⟩
  | bl b => exact ⟨_, rfl, .base (.bl b)⟩
  | int i => exact ⟨_, rfl, .base (.int i)⟩
  | str x => exact ⟨_, rfl, .base (.str x)⟩
  | lst hs ha => exact ⟨_, rfl, SqL.tyX hs⟩
  | tup hs ha => exact ⟨_, rfl, SqT.tyX hs⟩
/-- whether data are of a built-in class -/
def isB (c : String) (d : PyData) : Bool := match d, c with
  | .none, _ => false
  | .bool _, c => c == "bool" || c == "int"
  | .int _, c => c == "int"
  | .str _, c => c == "str"
  | .list _, c => c == "list"
  | .tuple _, c => c == "tuple"
  | _, _ => false
theorem Dp.isB {K : PySem.W.Frag} {H : Hp} {v : V} {d : PyData} (h : Dp K H v d) {c : String} (hc : c ∈ ["int", "bool", "str", "list", "tuple"]) : ∃ t, TyX K H v t ∧ PySem.W.kitOne K t (.type c) = some (isB c d) := by
  simp only [List.mem_cons, List.mem_nil_iff, or_false] at hc
  cases h with
  | non => exact ⟨_, .base .non, by rcases hc with rfl | rfl | rfl | rfl | rfl <;> exact kit_ty (by first | (show kitB _ _ = some true; decide +kernel) | (show kitB _ _ = some false; decide +kernel))⟩
  | bl b => exact ⟨_, .base (.bl b), by rcases hc with rfl | rfl | rfl | rfl | rfl <;> exact kit_ty (by first | (show kitB _ _ = some true; decide +kernel) | (show kitB _ _ = some false; decide +kernel))⟩
  | int i => exact ⟨_, .base (.int i), by rcases hc with rfl | rfl | rfl | rfl | rfl <;> exact kit_ty (by first | (show kitB _ _ = some true; decide +kernel) | (show kitB _ _ = some false; decide +kernel))⟩
  | str x => exact ⟨_, .base (.str x), by rcases hc with rfl | rfl | rfl | rfl | rfl <;> exact kit_ty (by first | (show kitB _ _ = some true; decide +kernel) | (show kitB _ _ = some false; decide +kernel))⟩
  | lst hs ha => exact ⟨_, SqL.tyX hs, by rcases hc with rfl | rfl | rfl | rfl | rfl <;> exact kit_ty (by first | (show kitB _ _ = some true; decide +kernel) | (show kitB _ _ = some false; decide +kernel))⟩
  | tup hs ha => exact ⟨_, SqT.tyX hs, by rcases hc with rfl | rfl | rfl | rfl | rfl <;> exact kit_ty (by first | (show kitB _ _ = some true; decide +kernel) | (show kitB _ _ = some false; decide +kernel))⟩
/-- isinstance(x, c), answered of data -/
theorem isi_of {K : PySem.W.Frag} {H : Hp} {v : V} {d : PyData} (h : Dp K H v d) {c : String} (hc : c ∈ ["int", "bool", "str", "list", "tuple"]) {Q : V → Hp → Prop} (q : Q (.bl (FX.isB c d)) H) :
    rIsi K [v, .ty c] H Q := by
  obtain ⟨t, h1, h2⟩ := Dp.isB h hc
  exact ⟨v, .ty c, t, _, _, rfl, .ty c, h1, h2, q⟩
/-! ### the letters of the laws -/
def L8 : List Str := ["ab", "ba", "abc", "_ab", "Aa", "cab_", "Zz_"]
def zs (z : Str) : List Nat := z.cps.toList
def signs : Str := "ABCDEFGHIJKLMNOPQRSTUVWXYZ_abcdefghijklmnopqrstuvwxyz"
theorem l8_len : ∀ z ∈ L8, 2 ≤ z.length ∧ z.length ≤ 4 := by decide +kernel
theorem l8_nodup : ∀ z ∈ L8, (zs z).Nodup := by decide +kernel
theorem l8_signs : ∀ z ∈ L8, ∀ c ∈ zs z, c ∈ zs signs := by decide +kernel
theorem l8_count : ∀ z ∈ L8, ∀ c ∈ zs z, Txt.count z (S [c]) = 1 := by decide +kernel
theorem l8_index : ∀ z ∈ L8, ∀ c ∈ zs z, Builtin.Str.occurrences z (S [c]) 0 z.length 1 = [ix (zs z) c] := by decide +kernel
theorem zs_length (z : Str) : (zs z).length = z.length := by simp [zs, Str.length]
theorem zs_S (l : List Nat) : zs (S l) = l := by simp [zs, S]
theorem S_zs (x : Str) : S (zs x) = x := by simp [zs, S]
theorem S_len (l : List Nat) : (S l).length = l.length := by simp [S, Str.length]
theorem S_inj {a b : List Nat} (h : S a = S b) : a = b := by rw [← zs_S a, ← zs_S b, h]
theorem join_flat : ∀ ls : List (List Nat), Txt.join (S []) (ls.map S) = S ls.flatten := by
  intro ls
  rw [TL.join_eq]
  have h : ∀ ls : List (List Nat), TL.tl (Str.join (S []) (ls.map S)) = ls.flatten := by
    intro ls
    rw [TL.tl_join]
    have e : ∀ l : List (List Nat), TL.joinL (TL.tl (S [])) ((l.map S).map TL.tl) = l.flatten := by
      intro l
      induction l with
      | nil => rfl
      | cons a r ih =>
        cases r with
        | nil => simp [TL.joinL, S, TL.tl]
        | cons b r =>
          simp only [List.map_cons] at ih ⊢
          rw [TL.joinL, ih]
          simp [S, TL.tl]
    exact e ls
  have h2 := h ls
  have e3 : ∀ x y : Str, TL.tl x = TL.tl y → x = y := fun x y e => by
    rw [← S_zs x, ← S_zs y]
    exact congrArg S e
  exact e3 _ _ (h2.trans (zs_S _).symm)
theorem str_at {x : Str} {i c : Nat} (h : x.cps[i]? = some c) : (zs x)[i]? = some c := by
  have := h
  simpa [zs] using this
theorem str_mem {x : Str} {i c : Nat} (h : x.cps[i]? = some c) : c ∈ zs x := List.mem_of_getElem? (str_at h)
theorem new_hid_at {H0 H : Hp} {ls : List Addr} {p : Addr} {o : HO} (h0 : H0 p = none) (hp : p ∉ ls) (h : H p = some o) : New H0 (hid ls H) p = some o := new_at h0 (by rw [hid_out hp]; exact h)
/-- a tuple made of a list's items -/
theorem tup_new {K : PySem.W.Frag} {H0 H : Hp} {ls : List Addr} {l : Addr} {xs : List V} {ds : List PyData} (sm : Same H0 H) (hl : H l = none) (h : DpAll K (New H0 (hid ls H)) xs ds) : Dp K (New H0 (upd H l (.tup xs))) (.ref l) (.tuple ds) :=
  Dp.tupNew (new_at (sm.free hl) upd_same) (DpAll.same (new_trans ((hid_sub ls H).trans (same_upd hl))) h)
theorem dp_new {K : PySem.W.Frag} {H0 H : Hp} {v : V} {d : PyData} (h : Dp K (New H0 H) v d) : Dp K H v d := Dp.same (new_sub _ _) h
/-- what is new since H2 is none of ls, all there then -/
theorem new_in {H0 H2 H3 : Hp} {ls : List Addr} (s : Same H0 H2) (h : ∀ l ∈ ls, H2 l ≠ none) : Same (New H2 H3) (New H0 (hid ls H3)) := fun b o e => by
  unfold New at e ⊢
  split at e
  · rename_i hb
    rw [if_pos (s.free hb), hid_out fun q => h b q hb]
    exact e
  · cases e
theorem int1 (i : Nat) : V.int ((i : Int) + 1) = V.int ((i + 1 : Nat) : Int) := by rw [show ((i : Int) + 1) = ((i + 1 : Nat) : Int) by omega]
theorem int01 (i : Nat) : V.int ((0 : Int) + (i : Int) + 1) = V.int ((i + 1 : Nat) : Int) := by rw [show ((0 : Int) + (i : Int) + 1) = ((i + 1 : Nat) : Int) by omega]
theorem int0 (i : Nat) : V.int ((0 : Int) + (i : Int)) = V.int ((i : Nat) : Int) := by rw [Int.zero_add]
theorem new_in2 {H0 H2 H3 : Hp} {D : Addr} (s : Same H0 H2) (h : H3 D = none) : Same (New H2 H3) (New H0 (hid [D] H3)) := fun b o e => by
  unfold New at e ⊢
  split at e
  · rename_i hb
    have hbD : b ≠ D := ne_of_none e h
    rw [if_pos (s.free hb), hid_out (by simp; exact hbD)]
    exact e
  · cases e
theorem S_nil : S [] = Str.ofString "" := rfl
theorem S_cons (d : Nat) : S [d] ≠ Str.ofString "" := fun h => by
  have h' := congrArg zs h
  rw [zs_S, ← S_nil, zs_S] at h'
  cases h'
theorem hid_less {ls ls' : List Addr} {H : Hp} (h : ∀ b ∈ ls', b ∈ ls) : Same (hid ls H) (hid ls' H) := fun b o e => by
  unfold hid at e ⊢
  split at e
  · cases e
  · rename_i hb
    rw [if_neg fun q => hb (h b q)]
    exact e
/-- one more object is made, and hidden -/
theorem hid_more {ls : List Addr} {H : Hp} {l : Addr} {o : HO} (h : H l = none) : Same (hid ls H) (hid (l :: ls) (upd H l o)) := fun b x e => by
  unfold hid at e ⊢
  split at e
  · cases e
  · rename_i hb
    have hbl := ne_of_none e h
    rw [if_neg (by simp; exact ⟨hbl, hb⟩), upd_ne hbl]
    exact e
theorem idxOf_first {α : Type} [BEq α] [LawfulBEq α] {q : α} : ∀ {l : List α} {m : Nat}, m < l.idxOf q → l[m]? ≠ some q
  | [], m, h => by simp
  | a :: l, m, h => by
    rw [List.idxOf_cons] at h
    cases e0 : (a == q) with
    | true =>
      rw [e0] at h
      simp at h
    | false =>
      have e' : (a == q) = false := e0
      have e : ¬ a = q := by simpa using e0
      rw [e'] at h
      simp at h
      cases m with
      | zero => simp [e]
      | succ m =>
        simp only [List.getElem?_cons_succ]
        exact idxOf_first (by omega)
theorem idxOf_at {α : Type} [BEq α] [LawfulBEq α] {q : α} {l : List α} (h : q ∈ l) : l[l.idxOf q]? = some q := by
  have h1 := List.idxOf_lt_length_of_mem h
  rw [List.getElem?_eq_getElem h1]
  simp
/-! ### pairs of numbers, as data -/
def dP (p : Nat × Nat) : PyData := .tuple [.int p.1, .int p.2]
theorem dP_eqv (p q : Nat × Nat) : PyData.eqv (dP p) (dP q) = decide (p = q) := by
  obtain ⟨a, b⟩ := p
  obtain ⟨c, d⟩ := q
  have e : PyData.eqv (dP (a, b)) (dP (c, d)) = (((a : Int) == (c : Int)) && (((b : Int) == (d : Int)) && true)) := by simp only [dP, PyData.eqv, PyData.eqvAll]
  rw [e]
  by_cases h : (a, b) = (c, d)
  · cases h
    simp
  · rw [decide_eq_false h]
    have h' : ¬ (a = c ∧ b = d) := fun ⟨h1, h2⟩ => h (by rw [h1, h2])
    by_cases h1 : a = c
    · have h2 : ((b : Int) == (d : Int)) = false := beq_eq_false_iff_ne.mpr (fun e => h' ⟨h1, by omega⟩)
      rw [h2]
      simp
    · have h2 : ((a : Int) == (c : Int)) = false := beq_eq_false_iff_ne.mpr (by omega)
      rw [h2]
      rfl
theorem dP_lay (p : Nat × Nat) : (dP p).canLay0 = true := by simp [dP, PyData.canLay0, PyData.canLayAll0]
theorem dP_depth (p : Nat × Nat) : (dP p).depth ≤ 1 := by simp [dP, PyData.depth, PyData.depthAll]
theorem shaped_of {d : PyData} (h1 : d.canLay0 = true) (h2 : d.depth ≤ 64) : SeqAt.shaped d = true := by
  show (d.canLay0 && decide (d.depth ≤ 64)) = true
  rw [h1, decide_eq_true h2]
  rfl
theorem dP_shaped (p : Nat × Nat) : SeqAt.shaped (dP p) = true := shaped_of (dP_lay p) (Nat.le_trans (dP_depth p) (by decide))
theorem layAll_of {ds : List PyData} (h : ∀ d ∈ ds, d.canLay0 = true) : PyData.canLayAll0 ds = true := by
  induction ds with
  | nil => simp [PyData.canLayAll0]
  | cons d ds ih => simp [PyData.canLayAll0, h d List.mem_cons_self, ih fun e he => h e (List.mem_cons_of_mem _ he)]
theorem depthAll_of {ds : List PyData} {n : Nat} (h : ∀ d ∈ ds, d.depth ≤ n) : PyData.depthAll ds ≤ n := by
  induction ds with
  | nil => simp [PyData.depthAll]
  | cons d ds ih =>
    have h1 := h d List.mem_cons_self
    have h2 := ih fun e he => h e (List.mem_cons_of_mem _ he)
    simp only [PyData.depthAll]
    omega
theorem dPs_shaped (ps : List (Nat × Nat)) : SeqAt.shaped (.list (ps.map dP)) = true := by
  refine shaped_of ?_ ?_
  · simp only [PyData.canLay0]
    exact layAll_of fun d hd => by obtain ⟨p, _, rfl⟩ := List.mem_map.mp hd; exact dP_lay p
  · have h1 := depthAll_of (ds := ps.map dP) (n := 1) fun d hd => by obtain ⟨p, _, rfl⟩ := List.mem_map.mp hd; exact dP_depth p
    simp only [PyData.depth]
    omega
theorem dPs_any (ps : List (Nat × Nat)) (q : Nat × Nat) : (ps.map dP).any (fun z => PyData.eqv z (dP q)) = decide (q ∈ ps) := by
  rw [List.any_map]
  by_cases h : q ∈ ps
  · rw [decide_eq_true h, List.any_eq_true]
    exact ⟨q, h, by show PyData.eqv _ _ = true; rw [dP_eqv]; simp⟩
  · rw [decide_eq_false h, List.any_eq_false]
    intro x hx
    show ¬ PyData.eqv _ _ = true
    rw [dP_eqv]
    simp
    exact fun e => h (e ▸ hx)
/-- l.index(pair) -/
theorem index_facts {ps : List (Nat × Nat)} {q : Nat × Nat} (hq : q ∈ ps) : (ps.map dP)[ps.idxOf q]? = some (dP q) ∧ PyData.eqv (dP q) (dP q) = true ∧
    ∀ (m : Nat) (z' : PyData), m < ps.idxOf q → (ps.map dP)[m]? = some z' → PyData.eqv z' (dP q) = false := by
  refine ⟨?_, ?_, ?_⟩
  · rw [List.getElem?_map, idxOf_at hq]
    rfl
  · rw [dP_eqv]
    simp
  · intro m z' hm hz
    rw [List.getElem?_map] at hz
    cases e : ps[m]? with
    | none =>
      rw [e] at hz
      cases hz
    | some p =>
      rw [e] at hz
      cases hz
      rw [dP_eqv]
      refine decide_eq_false fun h => ?_
      exact idxOf_first hm (by rw [e, h])
end FX
set_option Elab.async false
set_option linter.all false
set_option maxRecDepth 100000
/-! own rules: <, <=, > of lists of whole numbers -/
namespace FX
open PySem PySem.Spec PyProof.Rows L2
/-- the first place at which two lists differ decides; where none does, fin -/
def lexB (c : Int → Int → Bool) (fin : Bool) : List Int → List Int → Bool
  | x :: xs, y :: ys => if x = y then lexB c fin xs ys else c x y
  | _, _ => fin
theorem first_lex (c : Int → Int → Bool) (fin : Bool) : ∀ (xs ys : List Int) (i : Nat) (e r : Nat → Bool), (∀ j, e (i + j) = decide (xs.getD j 0 = ys.getD j 0)) → (∀ j, r (i + j) = c (xs.getD j 0) (ys.getD j 0)) →
    SeqAt.firstLt e r fin (List.range' i (min xs.length ys.length)) = lexB c fin xs ys
  | [], ys, i, e, r, _, _ => by simp [lexB, SeqAt.firstLt]
  | x :: xs, [], i, e, r, _, _ => by simp [lexB, SeqAt.firstLt]
  | x :: xs, y :: ys, i, e, r, he, hr => by
    have ih := first_lex c fin xs ys (i + 1) e r (fun j => by have := he (j + 1); rw [show i + 1 + j = i + (j + 1) by omega, this]; simp) (fun j => by have := hr (j + 1); rw [show i + 1 + j = i + (j + 1) by omega, this]; simp)
    rw [show min (x :: xs).length (y :: ys).length = min xs.length ys.length + 1 by simp only [List.length_cons]; omega, List.range'_succ]
    have e0 := he 0
    have r0 := hr 0
    simp at e0 r0
    show (if e i = true then _ else r i) = (if x = y then _ else _)
    by_cases h : x = y
    · rw [if_pos h, if_pos (by rw [e0]; exact decide_eq_true h)]; exact ih
    · rw [if_neg h, if_neg (by rw [e0]; simp [h])]; exact r0
/-- x op y of two lists of whole numbers, fin told by the lengths -/
def rLexL (K : PySem.W.Frag) (c : Int → Int → Bool) (z : Nat → Nat → Bool) : R2 := fun x y H Q => ∃ (a b : Addr) (ns ms : List Int), x = .ref a ∧ y = .ref b ∧ SqL K H a (ns.map V.int) ∧ SqL K H b (ms.map V.int) ∧ Q (.bl (lexB c (z ns.length ms.length) ns ms)) H
section
variable {X : Cx}
theorem op_lexL {op : CmpOp} {c : Int → Int → Bool} {z : Nat → Nat → Bool} (hu : X.A.units < cLine)
    (hL : ∀ {s : Shared} {l b : Addr} {items items2 : Array Value} {e r : Nat → Bool}, s.heap.IsList l items → s.heap.IsList b items2 →
      (∀ j (h1 : j < items.size) (h2 : j < items2.size), SeqAt.EqAt X.A.in1 s items[j] items2[j] (e j)) → (∀ j (h1 : j < items.size) (h2 : j < items2.size), e j = false → SeqAt.RcOp op X.A.in1 s items[j] items2[j] (r j)) →
      SeqAt.RcOp op X.A s (.ref l) (.ref b) (SeqAt.firstLt e r (z items.size items2.size) (List.range (min items.size items2.size))))
    (hI : ∀ {s : Shared} (a b : Int) (t u : Tok), SeqAt.RcOp op X.A.in1 s (.int a t) (.int b u) (c a b))
    (hop : ∀ v u, compareOp op v u = richCompare op v u) : OpR X (compareOp op) (rLexL X.K c z) := by
  intro pins s σ H x y v u Q I rx ry h
  obtain ⟨a, b, ns, ms, rfl, rfl, ha, hb, q⟩ := h
  cases rx
  cases ry
  obtain ⟨its, r1, p1, _⟩ := I.list ha
  obtain ⟨its2, r2, p2, _⟩ := I.list hb
  have i1 : IntsAre its ns := Vals.ints r1
  have i2 : IntsAre its2 ms := Vals.ints r2
  have e1 : its.toArray.size = ns.length := by rw [List.size_toArray]; exact i1.length
  have e2 : its2.toArray.size = ms.length := by rw [List.size_toArray]; exact i2.length
  have at1 : ∀ j (h1 : j < its.toArray.size), ∃ t, its.toArray[j] = .int (ns.getD j 0) t := fun j h1 => PyProof.Rows.IntsAre.int_at i1 _ _ (by simp at h1; simp [h1])
  have at2 : ∀ j (h1 : j < its2.toArray.size), ∃ t, its2.toArray[j] = .int (ms.getD j 0) t := fun j h1 => PyProof.Rows.IntsAre.int_at i2 _ _ (by simp at h1; simp [h1])
  have R := hL (s := s) (e := fun j => decide (ns.getD j 0 = ms.getD j 0)) (r := fun j => c (ns.getD j 0) (ms.getD j 0)) p1.isList p2.isList (fun j h1 h2 => by
    obtain ⟨t, et⟩ := at1 j h1
    obtain ⟨t', et'⟩ := at2 j h2
    rw [et, et']
    have z : (ns.getD j 0 == ms.getD j 0) = decide (ns.getD j 0 = ms.getD j 0) := by
      by_cases q : ns.getD j 0 = ms.getD j 0
      · rw [decide_eq_true q]; exact beq_iff_eq.mpr q
      · rw [decide_eq_false q]; exact beq_eq_false_iff_ne.mpr q
    rw [← z]
    exact SeqAt.EqAt.int_int _ _ _ _) (fun j h1 h2 _ => by
    obtain ⟨t, et⟩ := at1 j h1
    obtain ⟨t', et'⟩ := at2 j h2
    rw [et, et']
    exact hI _ _ _ _)
  rw [e1, e2, List.range_eq_range', first_lex c _ ns ms 0 _ _ (fun j => by rw [Nat.zero_add]) (fun j => by rw [Nat.zero_add])] at R
  rw [hop]
  exact R X.prog X.w X.xe (EP X pins σ Q) ⟨.bl _, H, I, rfl, q⟩
theorem op_leL (hu : X.A.units < cLine) : OpR X (compareOp .LtE) (rLexL X.K (fun a b => decide (a ≤ b)) (fun a b => decide (a ≤ b))) :=
  op_lexL hu (fun h1 h2 h3 h4 => SeqAt.RcOp.lists_le h1 h2 hu h3 h4) (fun _ _ _ _ _ _ _ _ h => PyProof.Rows.le_int h) (fun _ _ => rfl)
theorem op_ltL (hu : X.A.units < cLine) : OpR X (compareOp .Lt) (rLexL X.K (fun a b => decide (a < b)) (fun a b => decide (a < b))) :=
  op_lexL hu (fun h1 h2 h3 h4 => SeqAt.RcLt.lists h1 h2 hu h3 h4) (fun _ _ _ _ _ _ _ _ h => PyProof.Rows.lt_int h) (fun _ _ => rfl)
theorem op_gtL (hu : X.A.units < cLine) : OpR X (compareOp .Gt) (rLexL X.K (fun a b => decide (b < a)) (fun a b => decide (b < a))) :=
  op_lexL hu (fun h1 h2 h3 h4 => SeqAt.RcOp.lists_gt h1 h2 hu h3 h4) (fun _ _ _ _ _ _ _ _ h => PyProof.Rows.gt_int h) (fun _ _ => rfl)
end
end FX
set_option linter.all false
/-! the mathematics of conditions: stands, and what they tell -/
namespace FX
/-! ### patterns -/
def isIn (s : List Nat) (ps : List Nat) : Nat → Bool
  | 0 => decide (0 ∈ ps)
  | k + 1 => decide (k + 1 ∈ ps) || (isIn s ps k && decide (s[k]? = some 42))
def skips (s ps : List Nat) : List Nat := (List.range (s.length + 1)).filter (isIn s ps)
def rawAt (s : List Nat) (c p : Nat) : List Nat := (if s[p]? = some 42 then [p] else []) ++ (if s[p]? = some 63 ∨ s[p]? = some c then [p + 1] else [])
def raw (s : List Nat) (ps : List Nat) (c : Nat) : List Nat := (ps.map (rawAt s c)).flatten
def nextP (s ps : List Nat) (c : Nat) : List Nat := skips s (raw s ps c)
def headF (a : Nat) (f : List Nat → Bool) : List Nat → Bool
  | [] => false
  | c :: r => (decide (a = 63) || decide (a = c)) && f r
def fits : List Nat → List Nat → Bool
  | [], t => t.isEmpty
  | a :: s, t => if a = 42 then (List.range (t.length + 1)).any (fun k => fits s (t.drop k)) else headF a (fits s) t
theorem fits_s (s t : List Nat) : fits (42 :: s) t = (List.range (t.length + 1)).any (fun k => fits s (t.drop k)) := rfl
theorem fits_h {a : Nat} (s t : List Nat) (h : a ≠ 42) : fits (a :: s) t = headF a (fits s) t := by
  show (if a = 42 then _ else _) = _
  rw [if_neg h]
theorem mem_skips {s ps : List Nat} {k : Nat} : k ∈ skips s ps ↔ k ≤ s.length ∧ isIn s ps k = true := by
  unfold skips
  rw [List.mem_filter, List.mem_range]
  exact ⟨fun h => ⟨Nat.lt_succ_iff.mp h.1, h.2⟩, fun h => ⟨Nat.lt_succ_iff.mpr h.1, h.2⟩⟩
theorem isIn_of {s ps : List Nat} {k : Nat} (h : k ∈ ps) : isIn s ps k = true := by
  cases k <;> simp [isIn, h]
theorem isIn_star {s ps : List Nat} {k : Nat} (h : isIn s ps k = true) (e : s[k]? = some 42) : isIn s ps (k + 1) = true := by
  simp [isIn, h, e]
theorem isIn_cases {s ps : List Nat} : ∀ {k : Nat}, isIn s ps k = true → ∃ k0, k0 ≤ k ∧ k0 ∈ ps ∧ ∀ j, k0 ≤ j → j < k → s[j]? = some 42
  | 0, h => ⟨0, Nat.le_refl _, by simpa [isIn] using h, fun j h1 h2 => absurd h2 (by omega)⟩
  | k + 1, h => by
    simp only [isIn, Bool.or_eq_true, Bool.and_eq_true, decide_eq_true_eq] at h
    rcases h with h | ⟨h, e⟩
    · exact ⟨k + 1, Nat.le_refl _, h, fun j h1 h2 => absurd h2 (by omega)⟩
    · obtain ⟨k0, h1, h2, h3⟩ := isIn_cases h
      refine ⟨k0, by omega, h2, fun j hj1 hj2 => ?_⟩
      by_cases hjk : j = k
      · rw [hjk]; exact e
      · exact h3 j hj1 (by omega)
theorem drop_cons {s : List Nat} {k a : Nat} (h : s[k]? = some a) : s.drop k = a :: s.drop (k + 1) := by
  obtain ⟨h1, h2⟩ := List.getElem?_eq_some_iff.mp h
  rw [List.drop_eq_getElem_cons h1, h2]
/-- a star in front may be left out -/
theorem fits_star {s t : List Nat} (h : fits s t = true) : fits (42 :: s) t = true := by
  rw [fits_s, List.any_eq_true]
  exact ⟨0, by simp, by simpa using h⟩
theorem fits_stars {s t : List Nat} {k : Nat} : ∀ {k0 : Nat}, k0 ≤ k → (∀ j, k0 ≤ j → j < k → s[j]? = some 42) → fits (s.drop k) t = true → fits (s.drop k0) t = true := by
  intro k0 hle hs hf
  induction hd : k - k0 generalizing k0 with
  | zero =>
    have : k0 = k := by omega
    rw [this]; exact hf
  | succ n ih =>
    have e := hs k0 (Nat.le_refl _) (by omega)
    rw [drop_cons e]
    exact fits_star (ih (by omega) (fun j h1 h2 => hs j (by omega) h2) (by omega))
theorem star_more {r t : List Nat} {c : Nat} (h : fits (42 :: r) t = true) : fits (42 :: r) (c :: t) = true := by
  rw [fits_s, List.any_eq_true] at h ⊢
  obtain ⟨k, h1, h2⟩ := h
  refine ⟨k + 1, ?_, by simpa using h2⟩
  simp at h1 ⊢
  omega
theorem fits_nil_end {s ps : List Nat} : ∀ (n k : Nat), s.length - k = n → k ≤ s.length → isIn s ps k = true → fits (s.drop k) [] = true → isIn s ps s.length = true
  | 0, k, hn, hk, hi, _ => by
    have : k = s.length := by omega
    rw [← this]; exact hi
  | n + 1, k, hn, hk, hi, hf => by
    have hlt : k < s.length := by omega
    have e : s[k]? = some s[k] := List.getElem?_eq_getElem hlt
    rw [drop_cons e] at hf
    by_cases h42 : s[k] = 42
    · have e' : s[k]? = some 42 := by rw [e, h42]
      rw [h42, fits_s, List.any_eq_true] at hf
      obtain ⟨j, _, hj⟩ := hf
      exact fits_nil_end n (k + 1) (by omega) (by omega) (isIn_star hi e') (by simpa using hj)
    · rw [fits_h _ _ h42] at hf
      cases hf
theorem mem_raw {s ps : List Nat} {c k : Nat} : k ∈ raw s ps c ↔ ∃ p ∈ ps, (s[p]? = some 42 ∧ k = p) ∨ ((s[p]? = some 63 ∨ s[p]? = some c) ∧ k = p + 1) := by
  unfold raw
  rw [List.mem_flatten]
  constructor
  · rintro ⟨l, hl, hk⟩
    obtain ⟨p, hp, rfl⟩ := List.mem_map.mp hl
    refine ⟨p, hp, ?_⟩
    unfold rawAt at hk
    rcases List.mem_append.mp hk with h | h
    · split at h
      · simp at h; exact .inl ⟨by assumption, h⟩
      · cases h
    · split at h
      · simp at h; exact .inr ⟨by assumption, h⟩
      · cases h
  · rintro ⟨p, hp, h⟩
    refine ⟨rawAt s c p, List.mem_map.mpr ⟨p, hp, rfl⟩, ?_⟩
    unfold rawAt
    rcases h with ⟨h1, h2⟩ | ⟨h1, h2⟩
    · rw [if_pos h1]; simp [h2]
    · rw [if_pos h1]; simp [h2]
theorem raw_le {s ps : List Nat} {c k : Nat} (h : k ∈ raw s ps c) : k ≤ s.length := by
  obtain ⟨p, _, h⟩ := mem_raw.mp h
  rcases h with ⟨h1, rfl⟩ | ⟨h1, rfl⟩
  · exact Nat.le_of_lt (List.getElem?_eq_some_iff.mp h1).1
  · rcases h1 with h1 | h1
    · exact (List.getElem?_eq_some_iff.mp h1).1
    · exact (List.getElem?_eq_some_iff.mp h1).1
/-- from a place that is in: what the rest of the pattern takes, the places take -/
theorem fits_step {s ps : List Nat} {c : Nat} {t : List Nat} (hc : c ≠ 42) : ∀ (n k : Nat), s.length - k = n → k ∈ skips s ps → fits (s.drop k) (c :: t) = true → ∃ j ∈ nextP s (skips s ps) c, fits (s.drop j) t = true
  | n, k, hn, hk, hf => by
    obtain ⟨hkl, hki⟩ := mem_skips.mp hk
    by_cases hlt : k < s.length
    · have e : s[k]? = some s[k] := List.getElem?_eq_getElem hlt
      rw [drop_cons e] at hf
      by_cases h42 : s[k] = 42
      · have e' : s[k]? = some 42 := by rw [e, h42]
        rw [h42, fits_s, List.any_eq_true] at hf
        obtain ⟨j, hj1, hj2⟩ := hf
        cases j with
        | zero =>
          have hk1 : k + 1 ∈ skips s ps := mem_skips.mpr ⟨by omega, isIn_star hki e'⟩
          exact fits_step hc (n - 1) (k + 1) (by omega) hk1 (by simpa using hj2)
        | succ j =>
          refine ⟨k, mem_skips.mpr ⟨hkl, isIn_of (mem_raw.mpr ⟨k, hk, .inl ⟨e', rfl⟩⟩)⟩, ?_⟩
          rw [drop_cons e', fits_s, List.any_eq_true]
          refine ⟨j, ?_, by simpa using hj2⟩
          simp at hj1 ⊢
          omega
      · rw [fits_h _ _ h42] at hf
        simp only [headF, Bool.and_eq_true, Bool.or_eq_true, decide_eq_true_eq] at hf
        obtain ⟨h1, h2⟩ := hf
        refine ⟨k + 1, mem_skips.mpr ⟨by omega, isIn_of (mem_raw.mpr ⟨k, hk, .inr ⟨?_, rfl⟩⟩)⟩, h2⟩
        rcases h1 with h1 | h1
        · exact .inl (by rw [e, h1])
        · exact .inr (by rw [e, h1])
    · rw [List.drop_of_length_le (by omega)] at hf
      simp [fits] at hf
  termination_by n k => s.length - k
theorem step_fits {s ps : List Nat} {c : Nat} {t : List Nat} (hc : c ≠ 42) {j : Nat} (hj : j ∈ nextP s (skips s ps) c) (hf : fits (s.drop j) t = true) : ∃ k ∈ skips s ps, fits (s.drop k) (c :: t) = true := by
  obtain ⟨hjl, hji⟩ := mem_skips.mp hj
  obtain ⟨k0, h1, h2, h3⟩ := isIn_cases hji
  have hf0 := fits_stars h1 h3 hf
  obtain ⟨p, hp, h⟩ := mem_raw.mp h2
  refine ⟨p, hp, ?_⟩
  rcases h with ⟨e, rfl⟩ | ⟨e, rfl⟩
  · rw [drop_cons e] at hf0 ⊢
    exact star_more hf0
  · rcases e with e | e
    · rw [drop_cons e, fits_h _ _ (by decide)]
      simp [headF, hf0]
    · rw [drop_cons e, fits_h _ _ hc]
      simp [headF, hf0]
/-- the places tell whether a text is of the form of the pattern -/
theorem places_fit {s : List Nat} : ∀ (t : List Nat) (ps : List Nat), (∀ c ∈ t, c ≠ 42) → (decide (s.length ∈ t.foldl (nextP s) (skips s ps)) = (skips s ps).any (fun k => fits (s.drop k) t))
  | [], ps, _ => by
    rw [Bool.eq_iff_iff, decide_eq_true_eq, List.any_eq_true]
    constructor
    · intro h
      exact ⟨s.length, h, by rw [List.drop_length]; rfl⟩
    · rintro ⟨k, hk, hf⟩
      obtain ⟨h1, h2⟩ := mem_skips.mp hk
      exact mem_skips.mpr ⟨Nat.le_refl _, fits_nil_end _ k rfl h1 h2 hf⟩
  | c :: t, ps, hc => by
    have hc0 := hc c List.mem_cons_self
    have ih := places_fit (s := s) t (raw s (skips s ps) c) fun d hd => hc d (List.mem_cons_of_mem _ hd)
    show decide (s.length ∈ t.foldl (nextP s) (skips s (raw s (skips s ps) c))) = _
    rw [ih, Bool.eq_iff_iff, List.any_eq_true, List.any_eq_true]
    constructor
    · rintro ⟨j, hj, hf⟩
      exact step_fits hc0 hj hf
    · rintro ⟨k, hk, hf⟩
      exact fits_step hc0 _ k rfl hk hf
theorem like_fits {s t : List Nat} (hc : ∀ c ∈ t, c ≠ 42) : decide (s.length ∈ t.foldl (nextP s) (skips s [0])) = fits s t := by
  rw [places_fit t [0] hc, Bool.eq_iff_iff, List.any_eq_true]
  constructor
  · rintro ⟨k, hk, hf⟩
    obtain ⟨h1, h2⟩ := mem_skips.mp hk
    obtain ⟨k0, h3, h4, h5⟩ := isIn_cases h2
    have : k0 = 0 := by simpa using h4
    subst this
    have := fits_stars h3 h5 hf
    simpa using this
  · intro h
    exact ⟨0, mem_skips.mpr ⟨Nat.zero_le _, isIn_of (by simp)⟩, by simpa using h⟩
end FX
set_option linter.all false
/-! the mathematics of conditions, further: equal, begins, between -/
namespace FX
/-- the stand of "equal" (b false) and "begins" (b true) behind one more letter -/
def mNext (b : Bool) (t : List Nat) (z : Int) (c : Nat) : Int :=
  if b = true ∧ z = t.length then z else if 0 ≤ z ∧ t[z.toNat]? = some c then z + 1 else -1
theorem mNext_un (b : Bool) (t : List Nat) (c : Nat) : mNext b t (-1) c = -1 := by
  unfold mNext
  rw [if_neg (by omega), if_neg (by omega)]
theorem mFold_un (b : Bool) (t : List Nat) : ∀ x : List Nat, x.foldl (mNext b t) (-1) = -1
  | [] => rfl
  | c :: x => by rw [List.foldl_cons, mNext_un]; exact mFold_un b t x
theorem mFold_end (t : List Nat) : ∀ x : List Nat, x.foldl (mNext true t) t.length = t.length
  | [] => rfl
  | c :: x => by rw [List.foldl_cons, show mNext true t t.length c = t.length from if_pos ⟨rfl, rfl⟩]; exact mFold_end t x
theorem mFold_eq (t : List Nat) : ∀ (x : List Nat) (n : Nat), n ≤ t.length → (x.foldl (mNext false t) n = t.length ↔ x = t.drop n)
  | [], n, h => by
    rw [List.foldl_nil]
    constructor
    · intro e
      have : n = t.length := by omega
      rw [this, List.drop_length]
    · intro e
      have := congrArg List.length e
      simp at this
      omega
  | c :: x, n, h => by
    rw [List.foldl_cons]
    by_cases e : t[n]? = some c
    · have hn : n < t.length := (List.getElem?_eq_some_iff.mp e).1
      rw [show mNext false t n c = ((n + 1 : Nat) : Int) by unfold mNext; rw [if_neg (by simp), if_pos ⟨by omega, by simpa using e⟩]; rfl, mFold_eq t x (n + 1) hn, drop_cons e]
      simp
    · rw [show mNext false t n c = -1 by unfold mNext; rw [if_neg (by simp), if_neg (fun z => e (by simpa using z.2))], mFold_un]
      constructor
      · intro z; omega
      · intro z
        exfalso
        apply e
        have := congrArg List.head? z
        simpa using this.symm
theorem mFold_begins (t : List Nat) : ∀ (x : List Nat) (n : Nat), n ≤ t.length → (x.foldl (mNext true t) n = t.length ↔ x.take (t.length - n) = t.drop n)
  | [], n, h => by
    rw [List.foldl_nil]
    constructor
    · intro e
      have : n = t.length := by omega
      rw [this, List.drop_length]; simp
    · intro e
      have := congrArg List.length e
      simp at this
      omega
  | c :: x, n, h => by
    rw [List.foldl_cons]
    by_cases hn : n = t.length
    · subst hn
      rw [show mNext true t t.length c = t.length from if_pos ⟨rfl, rfl⟩, mFold_end]
      simp
    · have hlt : n < t.length := by omega
      have e' : t[n]? = some t[n] := List.getElem?_eq_getElem hlt
      rw [show t.length - n = (t.length - (n + 1)) + 1 by omega, List.take_succ_cons, drop_cons e']
      by_cases e : t[n] = c
      · rw [show mNext true t n c = ((n + 1 : Nat) : Int) by unfold mNext; rw [if_neg (by omega), if_pos ⟨by omega, by rw [Int.toNat_natCast, e', e]⟩]; rfl, mFold_begins t x (n + 1) hlt]
        simp [e]
      · rw [show mNext true t n c = -1 by unfold mNext; rw [if_neg (by omega), if_neg (fun z => e (by have := z.2; rw [Int.toNat_natCast, e'] at this; exact Option.some.inj this))], mFold_un]
        constructor
        · intro z; omega
        · intro z
          exfalso
          exact e (List.cons.inj z).1.symm
/-- how a text lies beside a bound behind one more letter (r: the rank of a letter) -/
def bNext (r : Nat → Nat) (t : List Nat) (z : Int) (c : Nat) : Int :=
  if z < 0 then z else if z = t.length then -2 else if t[z.toNat]? = some c then z + 1 else if r c < r (t.getD z.toNat 0) then -1 else -2
theorem bFold_neg (r : Nat → Nat) (t : List Nat) {z : Int} (h : z < 0) : ∀ x : List Nat, x.foldl (bNext r t) z = z
  | [] => rfl
  | c :: x => by rw [List.foldl_cons, show bNext r t z c = z from if_pos h]; exact bFold_neg r t h x
/-- x is less than or is y, by the ranks of letters -/
def leR (r : Nat → Nat) : List Nat → List Nat → Bool
  | x :: xs, y :: ys => if r x = r y then leR r xs ys else decide (r x ≤ r y)
  | [], _ => true
  | _ :: _, [] => false
theorem leR_cons (r : Nat → Nat) (x y : Nat) (xs ys : List Nat) : leR r (x :: xs) (y :: ys) = if r x = r y then leR r xs ys else decide (r x ≤ r y) := rfl
theorem leR_nil (r : Nat → Nat) (ys : List Nat) : leR r [] ys = true := by cases ys <;> rfl
/-- what the stand beside a bound tells -/
theorem bFold_le {r : Nat → Nat} {t : List Nat} : ∀ (x : List Nat) (n : Nat), n ≤ t.length → (∀ c ∈ x, ∀ d ∈ t, r c = r d → c = d) →
    (decide (x.foldl (bNext r t) n ≠ -2) = leR r x (t.drop n)) ∧ (decide (x.foldl (bNext r t) n = -2 ∨ x.foldl (bNext r t) n = t.length) = leR r (t.drop n) x)
  | [], n, h, _ => by
    rw [List.foldl_nil, leR_nil]
    refine ⟨decide_eq_true (by omega), ?_⟩
    by_cases hn : n = t.length
    · subst hn
      rw [List.drop_length]
      simp [leR]
    · have e : t[n]? = some t[n] := List.getElem?_eq_getElem (by omega)
      rw [drop_cons e]
      show _ = false
      exact decide_eq_false (by omega)
  | c :: x, n, h, hi => by
    rw [List.foldl_cons]
    by_cases hn : n = t.length
    · subst hn
      rw [show bNext r t t.length c = -2 by unfold bNext; rw [if_neg (by omega), if_pos rfl], bFold_neg r t (by omega), List.drop_length, leR_nil]
      exact ⟨rfl, rfl⟩
    · have hlt : n < t.length := by omega
      have e' : t[n]? = some t[n] := List.getElem?_eq_getElem hlt
      rw [drop_cons e', leR_cons, leR_cons]
      by_cases e : t[n] = c
      · rw [show bNext r t n c = ((n + 1 : Nat) : Int) by unfold bNext; rw [if_neg (by omega), if_neg (by omega), if_pos (by rw [Int.toNat_natCast, e', e])]; rfl]
        have ih := bFold_le (r := r) x (n + 1) hlt fun c hc => hi c (List.mem_cons_of_mem _ hc)
        rw [if_pos (by rw [e]), if_pos (by rw [e])]
        exact ih
      · have hr : r c ≠ r t[n] := fun z => e (hi c List.mem_cons_self _ (List.getElem_mem _) z).symm
        have hg : t.getD ((n : Int).toNat) 0 = t[n] := by rw [Int.toNat_natCast, List.getD_eq_getElem?_getD, e']; rfl
        rw [if_neg hr, if_neg (Ne.symm hr)]
        by_cases hl : r c < r t[n]
        · rw [show bNext r t n c = -1 by unfold bNext; rw [if_neg (by omega), if_neg (by omega), if_neg (by rw [Int.toNat_natCast, e']; simpa using e), if_pos (by rw [hg]; exact hl)], bFold_neg r t (by omega)]
          exact ⟨by rw [decide_eq_true (by omega), decide_eq_true (by omega)], by rw [decide_eq_false (by omega), decide_eq_false (by omega)]⟩
        · rw [show bNext r t n c = -2 by unfold bNext; rw [if_neg (by omega), if_neg (by omega), if_neg (by rw [Int.toNat_natCast, e']; simpa using e), if_neg (by rw [hg]; exact hl)], bFold_neg r t (by omega)]
          exact ⟨by rw [decide_eq_false (by omega), decide_eq_false (by omega)], by rw [decide_eq_true (by omega), decide_eq_true (by omega)]⟩
end FX
set_option Elab.async false
set_option linter.all false
set_option maxRecDepth 100000
set_option maxHeartbeats 4000000
/-! a comprehension with a condition: the list that has grown after each item is told beforehand -/
namespace FX
open PySem PySem.Spec PyProof.Rows L2
theorem lc_sel {J : It} {n : Nat} {G : Hp → Prop} {Y : Nat → Hp → V → Hp → Prop} (w : Walk J n G Y) {g : TG} {tt : TT} {te : TE} {vs : List Nat} {σ : L2.St} {H1 : Hp} {D : Addr} {Qd : Hp → Prop}
    (acc : Nat → List V) (h0 : acc 0 = []) (hl : ∀ i, i < n → (acc i).length < sizeLine) (hD : H1 D = none) (hG : ∀ H, Same H1 H → G H)
    (hs : ∀ i x H H', i < n → Same H1 H → H D = some (.lst (acc i)) → Y i H x H' →
      (∀ y H4, Same H H4 → acc (i + 1) = acc i ++ [y] → ∃ ac, H4 D = some (.lst ac) ∧ ac.length < sizeLine ∧ (Same H1 (upd H4 D (.lst (ac ++ [y]))) ∧ upd H4 D (.lst (ac ++ [y])) D = some (.lst (acc (i + 1))))) →
      (∀ H3, Same H H3 → acc (i + 1) = acc i → (Same H1 H3 ∧ H3 D = some (.lst (acc (i + 1))))) →
      g x (wipe σ vs) H' fun σ2 H2 => wipe σ2 vs = wipe σ vs ∧ tt σ2 H2 fun b H3 =>
        if b = true then te σ2 H3 fun y H4 => ∃ ac, H4 D = some (.lst ac) ∧ ac.length < sizeLine ∧ (Same H1 (upd H4 D (.lst (ac ++ [y]))) ∧ upd H4 D (.lst (ac ++ [y])) D = some (.lst (acc (i + 1)))) else (Same H1 H3 ∧ H3 D = some (.lst (acc (i + 1)))))
    (hd : ∀ H, Same H1 H → H D = some (.lst (acc n)) → Qd H) :
    ∃ W : Nat → Nat → Hp → Prop, (∃ m, W 0 m (upd H1 D (.lst []))) ∧ ∀ i m H, W i m H →
      (J.stop i H ∧ Qd H) ∨ (J.go i H ∧ ∃ Nx : Hp → Prop, (∀ H', Nx H' → ∃ m', m' < m ∧ W (i + 1) m' H') ∧ ∀ x H', J.yld i H x H' → g x (wipe σ vs) H' fun σ2 H2 => wipe σ2 vs = wipe σ vs ∧ tt σ2 H2 fun b H3 =>
        if b = true then te σ2 H3 fun y H4 => ∃ acc, H4 D = some (.lst acc) ∧ acc.length < sizeLine ∧ Nx (upd H4 D (.lst (acc ++ [y]))) else Nx H3) := by
  refine lc_it w (fun i H => Same H1 H ∧ H D = some (.lst (acc i))) ⟨same_upd hD, by rw [h0]; exact upd_same⟩ (fun i H _ h => hG H h.1) ?_ ?_
  · rintro i x H H' hi ⟨sm, hx⟩ y
    refine hs i x H H' hi sm hx y (fun y H4 s4 e => ?_) (fun H3 s3 e => ?_)
    · refine ⟨acc i, s4 _ _ hx, hl i hi, fun b o z => ?_, by rw [upd_same, e]⟩
      rw [upd_ne (ne_of_none z hD)]
      exact s4 _ _ (sm _ _ z)
    · exact ⟨sm.trans s3, by rw [e]; exact s3 _ _ hx⟩
  · rintro H ⟨sm, hx⟩
    exact hd H sm hx
end FX
set_option Elab.async false
set_option linter.all false
set_option maxRecDepth 100000
set_option maxHeartbeats 8000000
namespace K3
open PySem PySem.Spec PyProof.Rows L2 FX
def top (i : Nat) : Stmt := PySem.Challenge.pw_foldlook_k03_whole_conditions.main.body.getD i (.Pass ⟨0, 0, 0, 0⟩)
abbrev s_is_whole : Stmt := top 9
theorem sc_is_whole : FnScope ["thing"] ["thing"] (defScope s_is_whole) := ⟨rfl, rfl, rfl, by decide +kernel, rfl, by decide +kernel, by decide +kernel⟩
abbrev s_is_letters : Stmt := top 10
theorem sc_is_letters : FnScope ["thing", "sign"] ["thing"] (defScope s_is_letters) := ⟨rfl, rfl, rfl, by decide +kernel, rfl, by decide +kernel, by decide +kernel⟩
abbrev s_is_value : Stmt := top 11
theorem sc_is_value : FnScope ["letters", "thing", "sign"] ["letters", "thing"] (defScope s_is_value) := ⟨rfl, rfl, rfl, by decide +kernel, rfl, by decide +kernel, by decide +kernel⟩
abbrev s_check_letters : Stmt := top 12
theorem sc_check_letters : FnScope ["letters"] ["letters"] (defScope s_check_letters) := ⟨rfl, rfl, rfl, by decide +kernel, rfl, by decide +kernel, by decide +kernel⟩
abbrev s_check_value : Stmt := top 13
theorem sc_check_value : FnScope ["letters", "value"] ["letters", "value"] (defScope s_check_value) := ⟨rfl, rfl, rfl, by decide +kernel, rfl, by decide +kernel, by decide +kernel⟩
abbrev s_Machine_init : Stmt := inClass (top 16) 0
theorem sc_Machine_init : FnScope ["self", "letters", "rows"] ["self", "letters", "rows"] (defScope s_Machine_init) := ⟨rfl, rfl, rfl, by decide +kernel, rfl, by decide +kernel, by decide +kernel⟩
abbrev s_Machine_letters : Stmt := inClass (top 16) 3
theorem sc_Machine_letters : FnScope ["self"] ["self"] (defScope s_Machine_letters) := ⟨rfl, rfl, rfl, by decide +kernel, rfl, by decide +kernel, by decide +kernel⟩
abbrev s_Machine_rows : Stmt := inClass (top 16) 4
theorem sc_Machine_rows : FnScope ["self"] ["self"] (defScope s_Machine_rows) := ⟨rfl, rfl, rfl, by decide +kernel, rfl, by decide +kernel, by decide +kernel⟩
abbrev s_Machine_turn : Stmt := inClass (top 16) 5
theorem sc_Machine_turn : FnScope ["self", "state", "letter"] ["self", "state", "letter"] (defScope s_Machine_turn) := ⟨rfl, rfl, rfl, by decide +kernel, rfl, by decide +kernel, by decide +kernel⟩
abbrev s_Machine_made : Stmt := inClass (top 16) 6
theorem sc_Machine_made : FnScope ["self", "value"] ["self", "value"] (defScope s_Machine_made) := ⟨rfl, rfl, rfl, by decide +kernel, rfl, by decide +kernel, by decide +kernel⟩
abbrev s_Machine__after : Stmt := inClass (top 16) 8
theorem sc_Machine__after : FnScope ["self", "value", "state", "outs", "letter", "out"] ["self", "value"] (defScope s_Machine__after) := ⟨rfl, rfl, rfl, by decide +kernel, rfl, by decide +kernel, by decide +kernel⟩
abbrev s_check_rows : Stmt := top 17
theorem sc_check_rows : FnScope ["letters", "rows", "index", "row"] ["letters", "rows"] (defScope s_check_rows) := ⟨rfl, rfl, rfl, by decide +kernel, rfl, by decide +kernel, by decide +kernel⟩
abbrev s_is_row : Stmt := top 18
theorem sc_is_row : FnScope ["letters", "many", "row", "turn"] ["letters", "many", "row"] (defScope s_is_row) := ⟨rfl, rfl, rfl, by decide +kernel, rfl, by decide +kernel, by decide +kernel⟩
abbrev s_is_turn : Stmt := top 19
theorem sc_is_turn : FnScope ["letters", "many", "turn", "state", "out"] ["letters", "many", "turn"] (defScope s_is_turn) := ⟨rfl, rfl, rfl, by decide +kernel, rfl, by decide +kernel, by decide +kernel⟩
abbrev s_check_machine : Stmt := top 20
theorem sc_check_machine : FnScope ["machine"] ["machine"] (defScope s_check_machine) := ⟨rfl, rfl, rfl, by decide +kernel, rfl, by decide +kernel, by decide +kernel⟩
abbrev s_is_condition : Stmt := top 27
theorem sc_is_condition : FnScope ["machine", "thing"] ["machine", "thing"] (defScope s_is_condition) := ⟨rfl, rfl, rfl, by decide +kernel, rfl, by decide +kernel, by decide +kernel⟩
abbrev s_meets : Stmt := top 28
theorem sc_meets : FnScope ["machine", "condition", "value"] ["machine", "condition", "value"] (defScope s_meets) := ⟨rfl, rfl, rfl, by decide +kernel, rfl, by decide +kernel, by decide +kernel⟩
abbrev s_stand : Stmt := top 29
theorem sc_stand : FnScope ["machine", "condition", "value", "now", "letter"] ["machine", "condition", "value"] (defScope s_stand) := ⟨rfl, rfl, rfl, by decide +kernel, rfl, by decide +kernel, by decide +kernel⟩
abbrev s_is_condition_on : Stmt := top 30
theorem sc_is_condition_on : FnScope ["letters", "thing", "kind", "signs", "text"] ["letters", "thing"] (defScope s_is_condition_on) := ⟨rfl, rfl, rfl, by decide +kernel, rfl, by decide +kernel, by decide +kernel⟩
abbrev s_check_condition : Stmt := top 31
theorem sc_check_condition : FnScope ["letters", "condition"] ["letters", "condition"] (defScope s_check_condition) := ⟨rfl, rfl, rfl, by decide +kernel, rfl, by decide +kernel, by decide +kernel⟩
abbrev s_first_stand : Stmt := top 32
theorem sc_first_stand : FnScope ["condition"] ["condition"] (defScope s_first_stand) := ⟨rfl, rfl, rfl, by decide +kernel, rfl, by decide +kernel, by decide +kernel⟩
abbrev s_next_stand : Stmt := top 33
theorem sc_next_stand : FnScope ["letters", "condition", "now", "letter", "low", "high"] ["letters", "condition", "now", "letter"] (defScope s_next_stand) := ⟨rfl, rfl, rfl, by decide +kernel, rfl, by decide +kernel, by decide +kernel⟩
abbrev s_is_met : Stmt := top 34
theorem sc_is_met : FnScope ["condition", "now", "low", "high"] ["condition", "now"] (defScope s_is_met) := ⟨rfl, rfl, rfl, by decide +kernel, rfl, by decide +kernel, by decide +kernel⟩
abbrev s_next_matched : Stmt := top 35
theorem sc_next_matched : FnScope ["condition", "now", "letter", "kind", "text"] ["condition", "now", "letter"] (defScope s_next_matched) := ⟨rfl, rfl, rfl, by decide +kernel, rfl, by decide +kernel, by decide +kernel⟩
abbrev s_next_beside : Stmt := top 36
theorem sc_next_beside : FnScope ["letters", "bound", "now", "letter"] ["letters", "bound", "now", "letter"] (defScope s_next_beside) := ⟨rfl, rfl, rfl, by decide +kernel, rfl, by decide +kernel, by decide +kernel⟩
abbrev s_next_places : Stmt := top 37
theorem sc_next_places : FnScope ["pattern", "now", "letter", "places", "place", "sign"] ["pattern", "now", "letter"] (defScope s_next_places) := ⟨rfl, rfl, rfl, by decide +kernel, rfl, by decide +kernel, by decide +kernel⟩
abbrev s_with_skips : Stmt := top 38
theorem sc_with_skips : FnScope ["pattern", "places", "found", "place", "skipped"] ["pattern", "places"] (defScope s_with_skips) := ⟨rfl, rfl, rfl, by decide +kernel, rfl, by decide +kernel, by decide +kernel⟩
abbrev s_law_number : Stmt := top 40
theorem sc_law_number : FnScope ["script", "index", "cells", "cell", "low", "high", "total", "blend"] ["script", "index"] (defScope s_law_number) := ⟨rfl, rfl, rfl, by decide +kernel, rfl, by decide +kernel, by decide +kernel⟩
abbrev s_law_letters : Stmt := top 41
theorem sc_law_letters : FnScope ["script", "at"] ["script", "at"] (defScope s_law_letters) := ⟨rfl, rfl, rfl, by decide +kernel, rfl, by decide +kernel, by decide +kernel⟩
abbrev s_law_rows : Stmt := top 42
theorem sc_law_rows : FnScope ["script", "at", "letters", "most", "many", "found", "thin", "state", "row", "spot", "letter", "seed", "out"] ["script", "at", "letters", "most"] (defScope s_law_rows) := ⟨rfl, rfl, rfl, by decide +kernel, rfl, by decide +kernel, by decide +kernel⟩
abbrev s_law_value : Stmt := top 43
theorem sc_law_value : FnScope ["script", "at", "letters", "most", "seed", "found", "spot"] ["script", "at", "letters", "most"] (defScope s_law_value) := ⟨rfl, rfl, rfl, by decide +kernel, rfl, by decide +kernel, by decide +kernel⟩
abbrev s_law_turn : Stmt := top 44
theorem sc_law_turn : FnScope ["letters", "rows", "state", "letter"] ["letters", "rows", "state", "letter"] (defScope s_law_turn) := ⟨rfl, rfl, rfl, by decide +kernel, rfl, by decide +kernel, by decide +kernel⟩
abbrev s_law_ends : Stmt := top 45
theorem sc_law_ends : FnScope ["letters", "rows", "value", "state", "found", "letter", "out"] ["letters", "rows", "value"] (defScope s_law_ends) := ⟨rfl, rfl, rfl, by decide +kernel, rfl, by decide +kernel, by decide +kernel⟩
abbrev s_law_condition : Stmt := top 46
theorem sc_law_condition : FnScope ["script", "at", "letters", "seed", "word", "signs", "text", "spot", "texts"] ["script", "at", "letters"] (defScope s_law_condition) := ⟨rfl, rfl, rfl, by decide +kernel, rfl, by decide +kernel, by decide +kernel⟩
abbrev s_law_led : Stmt := top 47
theorem sc_law_led : FnScope ["text", "places", "found", "place"] ["text", "places"] (defScope s_law_led) := ⟨rfl, rfl, rfl, by decide +kernel, rfl, by decide +kernel, by decide +kernel⟩
abbrev s_law_first_stand : Stmt := top 48
theorem sc_law_first_stand : FnScope ["condition"] ["condition"] (defScope s_law_first_stand) := ⟨rfl, rfl, rfl, by decide +kernel, rfl, by decide +kernel, by decide +kernel⟩
abbrev s_law_beside : Stmt := top 49
theorem sc_law_beside : FnScope ["letters", "bound", "place", "letter"] ["letters", "bound", "place", "letter"] (defScope s_law_beside) := ⟨rfl, rfl, rfl, by decide +kernel, rfl, by decide +kernel, by decide +kernel⟩
abbrev s_law_next_stand : Stmt := top 50
theorem sc_law_next_stand : FnScope ["letters", "condition", "mark", "letter", "text", "found", "place"] ["letters", "condition", "mark", "letter"] (defScope s_law_next_stand) := ⟨rfl, rfl, rfl, by decide +kernel, rfl, by decide +kernel, by decide +kernel⟩
abbrev s_law_met : Stmt := top 51
theorem sc_law_met : FnScope ["condition", "mark"] ["condition", "mark"] (defScope s_law_met) := ⟨rfl, rfl, rfl, by decide +kernel, rfl, by decide +kernel, by decide +kernel⟩
abbrev s_law_fits : Stmt := top 52
theorem sc_law_fits : FnScope ["pattern", "text", "at"] ["pattern", "text"] (defScope s_law_fits) := ⟨rfl, rfl, rfl, by decide +kernel, rfl, by decide +kernel, by decide +kernel⟩
abbrev s_law_is_met : Stmt := top 53
theorem sc_law_is_met : FnScope ["letters", "condition", "text", "word", "bound", "low", "high", "mine", "some", "one"] ["letters", "condition", "text"] (defScope s_law_is_met) := ⟨rfl, rfl, rfl, by decide +kernel, rfl, by decide +kernel, by decide +kernel⟩
abbrev s_law_is_condition : Stmt := top 54
theorem sc_law_is_condition : FnScope ["letters", "thing", "signs", "text", "sign"] ["letters", "thing"] (defScope s_law_is_condition) := ⟨rfl, rfl, rfl, by decide +kernel, rfl, by decide +kernel, by decide +kernel⟩
abbrev s_law_bent : Stmt := top 55
theorem sc_law_bent : FnScope ["seed", "letters", "condition", "at", "kind", "odd"] ["seed", "letters", "condition"] (defScope s_law_bent) := ⟨rfl, rfl, rfl, by decide +kernel, rfl, by decide +kernel, by decide +kernel⟩
abbrev s_law : Stmt := top 56
theorem sc_law : FnScope ["script", "letters", "rows", "machine", "turn", "condition", "value", "text", "due", "letter", "is_due", "bent"] ["script"] (defScope s_law) := ⟨rfl, rfl, rfl, by decide +kernel, rfl, by decide +kernel, by decide +kernel⟩
/-- a def of the module: where it stands, its name's value, how its arguments are bound -/
structure FF (K : PySem.W.Frag) (mg : Str → Option Value) (x : Str) (st : Stmt) (f : Addr) (fd : FuncData) (ps : List Str) : Prop where
  F : Fun K x x st f fd
  g : mg x = some (.ref f)
  b : Binds K fd ps []
structure FM (K : PySem.W.Frag) (x q : Str) (st : Stmt) (f : Addr) (fd : FuncData) (ps : List Str) : Prop where
  F : Fun K x q st f fd
  b : Binds K fd ps []
abbrev v_SIGNS : V := .str "ABCDEFGHIJKLMNOPQRSTUVWXYZ_abcdefghijklmnopqrstuvwxyz"
abbrev v_MOST_STATES : V := .int 6
abbrev v_MOST_SIGNS : V := .int 4
abbrev v_UNLIKE : V := .int (-1)
abbrev v_AHEAD : V := .int (-1)
abbrev v_BEHIND : V := .int (-2)
structure Ad where
  a_is_whole : Addr
  d_is_whole : FuncData
  a_is_letters : Addr
  d_is_letters : FuncData
  a_is_value : Addr
  d_is_value : FuncData
  a_check_letters : Addr
  d_check_letters : FuncData
  a_check_value : Addr
  d_check_value : FuncData
  a_Machine_init : Addr
  d_Machine_init : FuncData
  a_Machine_letters : Addr
  d_Machine_letters : FuncData
  a_Machine_rows : Addr
  d_Machine_rows : FuncData
  a_Machine_turn : Addr
  d_Machine_turn : FuncData
  a_Machine_made : Addr
  d_Machine_made : FuncData
  a_Machine__after : Addr
  d_Machine__after : FuncData
  a_check_rows : Addr
  d_check_rows : FuncData
  a_is_row : Addr
  d_is_row : FuncData
  a_is_turn : Addr
  d_is_turn : FuncData
  a_check_machine : Addr
  d_check_machine : FuncData
  a_is_condition : Addr
  d_is_condition : FuncData
  a_meets : Addr
  d_meets : FuncData
  a_stand : Addr
  d_stand : FuncData
  a_is_condition_on : Addr
  d_is_condition_on : FuncData
  a_check_condition : Addr
  d_check_condition : FuncData
  a_first_stand : Addr
  d_first_stand : FuncData
  a_next_stand : Addr
  d_next_stand : FuncData
  a_is_met : Addr
  d_is_met : FuncData
  a_next_matched : Addr
  d_next_matched : FuncData
  a_next_beside : Addr
  d_next_beside : FuncData
  a_next_places : Addr
  d_next_places : FuncData
  a_with_skips : Addr
  d_with_skips : FuncData
  a_law_number : Addr
  d_law_number : FuncData
  a_law_letters : Addr
  d_law_letters : FuncData
  a_law_rows : Addr
  d_law_rows : FuncData
  a_law_value : Addr
  d_law_value : FuncData
  a_law_turn : Addr
  d_law_turn : FuncData
  a_law_ends : Addr
  d_law_ends : FuncData
  a_law_condition : Addr
  d_law_condition : FuncData
  a_law_led : Addr
  d_law_led : FuncData
  a_law_first_stand : Addr
  d_law_first_stand : FuncData
  a_law_beside : Addr
  d_law_beside : FuncData
  a_law_next_stand : Addr
  d_law_next_stand : FuncData
  a_law_met : Addr
  d_law_met : FuncData
  a_law_fits : Addr
  d_law_fits : FuncData
  a_law_is_met : Addr
  d_law_is_met : FuncData
  a_law_is_condition : Addr
  d_law_is_condition : FuncData
  a_law_bent : Addr
  d_law_bent : FuncData
  a_law : Addr
  d_law : FuncData
  C : Addr
  pr_letters : Addr
  pr_rows : Addr
  t_SIGNS : Tok
  t_MOST_STATES : Tok
  t_MOST_SIGNS : Tok
  t_UNLIKE : Tok
  t_AHEAD : Tok
  t_BEHIND : Tok
  t_KINDS : Addr
structure Txt (K : PySem.W.Frag) (mg : Str → Option Value) (A : Ad) : Prop where
  f_is_whole : FF K mg "is_whole" s_is_whole A.a_is_whole A.d_is_whole ["thing"]
  f_is_letters : FF K mg "is_letters" s_is_letters A.a_is_letters A.d_is_letters ["thing"]
  f_is_value : FF K mg "is_value" s_is_value A.a_is_value A.d_is_value ["letters", "thing"]
  f_check_letters : FF K mg "check_letters" s_check_letters A.a_check_letters A.d_check_letters ["letters"]
  f_check_value : FF K mg "check_value" s_check_value A.a_check_value A.d_check_value ["letters", "value"]
  f_Machine_init : FM K "__init__" "Machine.__init__" s_Machine_init A.a_Machine_init A.d_Machine_init ["self", "letters", "rows"]
  f_Machine_letters : FM K "letters" "Machine.letters" s_Machine_letters A.a_Machine_letters A.d_Machine_letters ["self"]
  f_Machine_rows : FM K "rows" "Machine.rows" s_Machine_rows A.a_Machine_rows A.d_Machine_rows ["self"]
  f_Machine_turn : FM K "turn" "Machine.turn" s_Machine_turn A.a_Machine_turn A.d_Machine_turn ["self", "state", "letter"]
  f_Machine_made : FM K "made" "Machine.made" s_Machine_made A.a_Machine_made A.d_Machine_made ["self", "value"]
  f_Machine__after : FM K "_after" "Machine._after" s_Machine__after A.a_Machine__after A.d_Machine__after ["self", "value"]
  f_check_rows : FF K mg "check_rows" s_check_rows A.a_check_rows A.d_check_rows ["letters", "rows"]
  f_is_row : FF K mg "is_row" s_is_row A.a_is_row A.d_is_row ["letters", "many", "row"]
  f_is_turn : FF K mg "is_turn" s_is_turn A.a_is_turn A.d_is_turn ["letters", "many", "turn"]
  f_check_machine : FF K mg "check_machine" s_check_machine A.a_check_machine A.d_check_machine ["machine"]
  f_is_condition : FF K mg "is_condition" s_is_condition A.a_is_condition A.d_is_condition ["machine", "thing"]
  f_meets : FF K mg "meets" s_meets A.a_meets A.d_meets ["machine", "condition", "value"]
  f_stand : FF K mg "stand" s_stand A.a_stand A.d_stand ["machine", "condition", "value"]
  f_is_condition_on : FF K mg "is_condition_on" s_is_condition_on A.a_is_condition_on A.d_is_condition_on ["letters", "thing"]
  f_check_condition : FF K mg "check_condition" s_check_condition A.a_check_condition A.d_check_condition ["letters", "condition"]
  f_first_stand : FF K mg "first_stand" s_first_stand A.a_first_stand A.d_first_stand ["condition"]
  f_next_stand : FF K mg "next_stand" s_next_stand A.a_next_stand A.d_next_stand ["letters", "condition", "now", "letter"]
  f_is_met : FF K mg "is_met" s_is_met A.a_is_met A.d_is_met ["condition", "now"]
  f_next_matched : FF K mg "next_matched" s_next_matched A.a_next_matched A.d_next_matched ["condition", "now", "letter"]
  f_next_beside : FF K mg "next_beside" s_next_beside A.a_next_beside A.d_next_beside ["letters", "bound", "now", "letter"]
  f_next_places : FF K mg "next_places" s_next_places A.a_next_places A.d_next_places ["pattern", "now", "letter"]
  f_with_skips : FF K mg "with_skips" s_with_skips A.a_with_skips A.d_with_skips ["pattern", "places"]
  f_law_number : FF K mg "_law_number" s_law_number A.a_law_number A.d_law_number ["script", "index"]
  f_law_letters : FF K mg "_law_letters" s_law_letters A.a_law_letters A.d_law_letters ["script", "at"]
  f_law_rows : FF K mg "_law_rows" s_law_rows A.a_law_rows A.d_law_rows ["script", "at", "letters", "most"]
  f_law_value : FF K mg "_law_value" s_law_value A.a_law_value A.d_law_value ["script", "at", "letters", "most"]
  f_law_turn : FF K mg "_law_turn" s_law_turn A.a_law_turn A.d_law_turn ["letters", "rows", "state", "letter"]
  f_law_ends : FF K mg "_law_ends" s_law_ends A.a_law_ends A.d_law_ends ["letters", "rows", "value"]
  f_law_condition : FF K mg "_law_condition" s_law_condition A.a_law_condition A.d_law_condition ["script", "at", "letters"]
  f_law_led : FF K mg "_law_led" s_law_led A.a_law_led A.d_law_led ["text", "places"]
  f_law_first_stand : FF K mg "_law_first_stand" s_law_first_stand A.a_law_first_stand A.d_law_first_stand ["condition"]
  f_law_beside : FF K mg "_law_beside" s_law_beside A.a_law_beside A.d_law_beside ["letters", "bound", "place", "letter"]
  f_law_next_stand : FF K mg "_law_next_stand" s_law_next_stand A.a_law_next_stand A.d_law_next_stand ["letters", "condition", "mark", "letter"]
  f_law_met : FF K mg "_law_met" s_law_met A.a_law_met A.d_law_met ["condition", "mark"]
  f_law_fits : FF K mg "_law_fits" s_law_fits A.a_law_fits A.d_law_fits ["pattern", "text"]
  f_law_is_met : FF K mg "_law_is_met" s_law_is_met A.a_law_is_met A.d_law_is_met ["letters", "condition", "text"]
  f_law_is_condition : FF K mg "_law_is_condition" s_law_is_condition A.a_law_is_condition A.d_law_is_condition ["letters", "thing"]
  f_law_bent : FF K mg "_law_bent" s_law_bent A.a_law_bent A.d_law_bent ["seed", "letters", "condition"]
  f_law : FF K mg "law" s_law A.a_law A.d_law ["script"]
  cl : Cls K A.C
  mkC : Mk K A.C A.a_Machine_init
  g_Machine : mg "Machine" = some (.ref A.C)
  iA : PySem.W.findIn K (.ref A.C) "__class__" = some (some (.builtin "object.__class__"))
  iN : PySem.W.specialIn K (.builtin "object.__class__") "__get__" = some (some (.builtin "getset_descriptor.__get__"))
  iT : PySem.W.takesIn K (.builtin "object.__class__") = some true
  iM : PySem.W.mroIn K A.C (.type "object") = some true
  no_letters : NoAttr K A.C "_letters"
  no_rows : NoAttr K A.C "_rows"
  p_letters : PropOf K A.C "letters" A.pr_letters A.a_Machine_letters
  p_rows : PropOf K A.C "rows" A.pr_rows A.a_Machine_rows
  m_turn : Meth K A.C "turn" A.a_Machine_turn
  m_made : Meth K A.C "made" A.a_Machine_made
  m__after : Meth K A.C "_after" A.a_Machine__after
  neC : PySem.W.findIn K (.ref A.C) "__ne__" = some (some (.builtin "object.__ne__"))
  c_SIGNS : mg "SIGNS" = some (.str "ABCDEFGHIJKLMNOPQRSTUVWXYZ_abcdefghijklmnopqrstuvwxyz" A.t_SIGNS)
  c_MOST_STATES : mg "MOST_STATES" = some (.int 6 A.t_MOST_STATES)
  c_MOST_SIGNS : mg "MOST_SIGNS" = some (.int 4 A.t_MOST_SIGNS)
  c_UNLIKE : mg "UNLIKE" = some (.int (-1) A.t_UNLIKE)
  c_AHEAD : mg "AHEAD" = some (.int (-1) A.t_AHEAD)
  c_BEHIND : mg "BEHIND" = some (.int (-2) A.t_BEHIND)
  c_KINDS : mg "KINDS" = some (.ref A.t_KINDS)
  q_KINDS : ∃ (o : Obj) (its : Array Value) (n : Nat), K.lookup A.t_KINDS = some o ∧ o.cls = .type "tuple" ∧ o.data = .seq its n ∧ its.size ≤ sizeLine ∧ Vals [V.str "equal", V.str "begins", V.str "between", V.str "like"] its.toList
  n_all : mg "all" = none
  n_any : mg "any" = none
  n_bool : mg "bool" = none
  n_enumerate : mg "enumerate" = none
  n_int : mg "int" = none
  n_isinstance : mg "isinstance" = none
  n_len : mg "len" = none
  n_list : mg "list" = none
  n_range : mg "range" = none
  n_set : mg "set" = none
  n_sorted : mg "sorted" = none
  n_str : mg "str" = none
  n_sum : mg "sum" = none
  n_super : mg "super" = none
  n_tuple : mg "tuple" = none
theorem all_mk {K : PySem.W.Frag} {h : Heap} {mg : Str → Option Value} {fa C : Addr} (X : K.In h) (G : h.Ns mainGlobals mg) (hfa : mg "law" = some (.ref fa))
    {f1 : Addr} {od1 an1 : Option Addr} {sl1 : Array (Option Value)} {oc1 kV1 dc1 pm1 cd1 ct1 : Value} {f2 : Addr} {od2 an2 : Option Addr} {sl2 : Array (Option Value)} {oc2 kV2 dc2 pm2 cd2 ct2 : Value} {f3 : Addr} {od3 an3 : Option Addr} {sl3 : Array (Option Value)} {oc3 kV3 dc3 pm3 cd3 ct3 : Value} {f4 : Addr} {od4 an4 : Option Addr} {sl4 : Array (Option Value)} {oc4 kV4 dc4 pm4 cd4 ct4 : Value} {f5 : Addr} {od5 an5 : Option Addr} {sl5 : Array (Option Value)} {oc5 kV5 dc5 pm5 cd5 ct5 : Value} {f6 : Addr} {od6 an6 : Option Addr} {sl6 : Array (Option Value)} {oc6 kV6 dc6 pm6 cd6 ct6 : Value} {f7 : Addr} {od7 an7 : Option Addr} {sl7 : Array (Option Value)} {oc7 kV7 dc7 pm7 cd7 ct7 : Value} {rest7 : List Value} {p7 : Addr} {f8 : Addr} {od8 an8 : Option Addr} {sl8 : Array (Option Value)} {oc8 kV8 dc8 pm8 cd8 ct8 : Value} {rest8 : List Value} {p8 : Addr} {f9 : Addr} {od9 an9 : Option Addr} {sl9 : Array (Option Value)} {oc9 kV9 dc9 pm9 cd9 ct9 : Value} {f10 : Addr} {od10 an10 : Option Addr} {sl10 : Array (Option Value)} {oc10 kV10 dc10 pm10 cd10 ct10 : Value} {f11 : Addr} {od11 an11 : Option Addr} {sl11 : Array (Option Value)} {oc11 kV11 dc11 pm11 cd11 ct11 : Value} {f12 : Addr} {od12 an12 : Option Addr} {sl12 : Array (Option Value)} {oc12 kV12 dc12 pm12 cd12 ct12 : Value} {f13 : Addr} {od13 an13 : Option Addr} {sl13 : Array (Option Value)} {oc13 kV13 dc13 pm13 cd13 ct13 : Value} {f14 : Addr} {od14 an14 : Option Addr} {sl14 : Array (Option Value)} {oc14 kV14 dc14 pm14 cd14 ct14 : Value} {f15 : Addr} {od15 an15 : Option Addr} {sl15 : Array (Option Value)} {oc15 kV15 dc15 pm15 cd15 ct15 : Value} {f16 : Addr} {od16 an16 : Option Addr} {sl16 : Array (Option Value)} {oc16 kV16 dc16 pm16 cd16 ct16 : Value} {f17 : Addr} {od17 an17 : Option Addr} {sl17 : Array (Option Value)} {oc17 kV17 dc17 pm17 cd17 ct17 : Value} {f18 : Addr} {od18 an18 : Option Addr} {sl18 : Array (Option Value)} {oc18 kV18 dc18 pm18 cd18 ct18 : Value} {f19 : Addr} {od19 an19 : Option Addr} {sl19 : Array (Option Value)} {oc19 kV19 dc19 pm19 cd19 ct19 : Value} {f20 : Addr} {od20 an20 : Option Addr} {sl20 : Array (Option Value)} {oc20 kV20 dc20 pm20 cd20 ct20 : Value} {f21 : Addr} {od21 an21 : Option Addr} {sl21 : Array (Option Value)} {oc21 kV21 dc21 pm21 cd21 ct21 : Value} {f22 : Addr} {od22 an22 : Option Addr} {sl22 : Array (Option Value)} {oc22 kV22 dc22 pm22 cd22 ct22 : Value} {f23 : Addr} {od23 an23 : Option Addr} {sl23 : Array (Option Value)} {oc23 kV23 dc23 pm23 cd23 ct23 : Value} {f24 : Addr} {od24 an24 : Option Addr} {sl24 : Array (Option Value)} {oc24 kV24 dc24 pm24 cd24 ct24 : Value} {f25 : Addr} {od25 an25 : Option Addr} {sl25 : Array (Option Value)} {oc25 kV25 dc25 pm25 cd25 ct25 : Value} {f26 : Addr} {od26 an26 : Option Addr} {sl26 : Array (Option Value)} {oc26 kV26 dc26 pm26 cd26 ct26 : Value} {f27 : Addr} {od27 an27 : Option Addr} {sl27 : Array (Option Value)} {oc27 kV27 dc27 pm27 cd27 ct27 : Value} {f28 : Addr} {od28 an28 : Option Addr} {sl28 : Array (Option Value)} {oc28 kV28 dc28 pm28 cd28 ct28 : Value} {f29 : Addr} {od29 an29 : Option Addr} {sl29 : Array (Option Value)} {oc29 kV29 dc29 pm29 cd29 ct29 : Value} {f30 : Addr} {od30 an30 : Option Addr} {sl30 : Array (Option Value)} {oc30 kV30 dc30 pm30 cd30 ct30 : Value} {f31 : Addr} {od31 an31 : Option Addr} {sl31 : Array (Option Value)} {oc31 kV31 dc31 pm31 cd31 ct31 : Value} {f32 : Addr} {od32 an32 : Option Addr} {sl32 : Array (Option Value)} {oc32 kV32 dc32 pm32 cd32 ct32 : Value} {f33 : Addr} {od33 an33 : Option Addr} {sl33 : Array (Option Value)} {oc33 kV33 dc33 pm33 cd33 ct33 : Value} {f34 : Addr} {od34 an34 : Option Addr} {sl34 : Array (Option Value)} {oc34 kV34 dc34 pm34 cd34 ct34 : Value} {f35 : Addr} {od35 an35 : Option Addr} {sl35 : Array (Option Value)} {oc35 kV35 dc35 pm35 cd35 ct35 : Value} {f36 : Addr} {od36 an36 : Option Addr} {sl36 : Array (Option Value)} {oc36 kV36 dc36 pm36 cd36 ct36 : Value} {f37 : Addr} {od37 an37 : Option Addr} {sl37 : Array (Option Value)} {oc37 kV37 dc37 pm37 cd37 ct37 : Value} {f38 : Addr} {od38 an38 : Option Addr} {sl38 : Array (Option Value)} {oc38 kV38 dc38 pm38 cd38 ct38 : Value} {f39 : Addr} {od39 an39 : Option Addr} {sl39 : Array (Option Value)} {oc39 kV39 dc39 pm39 cd39 ct39 : Value} {f40 : Addr} {od40 an40 : Option Addr} {sl40 : Array (Option Value)} {oc40 kV40 dc40 pm40 cd40 ct40 : Value} {f41 : Addr} {od41 an41 : Option Addr} {sl41 : Array (Option Value)} {oc41 kV41 dc41 pm41 cd41 ct41 : Value} {f42 : Addr} {od42 an42 : Option Addr} {sl42 : Array (Option Value)} {oc42 kV42 dc42 pm42 cd42 ct42 : Value} {f43 : Addr} {od43 an43 : Option Addr} {sl43 : Array (Option Value)} {oc43 kV43 dc43 pm43 cd43 ct43 : Value} {f44 : Addr} {od44 an44 : Option Addr} {sl44 : Array (Option Value)} {oc44 kV44 dc44 pm44 cd44 ct44 : Value} {tkSIGNS : Tok} {tkMOST_STATES : Tok} {tkMOST_SIGNS : Tok} {tkUNLIKE : Tok} {tkAHEAD : Tok} {tkBEHIND : Tok} {tkKINDS : Addr} {odKINDS : Option Addr} {slKINDS : Array (Option Value)} {nnKINDS : Nat} {uKINDS0 uKINDS1 uKINDS2 uKINDS3 : Tok}
    (aC : PySem.W.nsIn K mainGlobals "Machine" = some (some (.ref C)))
    (a1 : PySem.W.nsIn K mainGlobals "is_whole" = some (some (.ref f1)))
    (l1 : K.lookup f1 = some ⟨oc1, od1, .func (PySem.W.fnOf "is_whole" "is_whole" (defArgs s_is_whole) (defBody s_is_whole) (defScope s_is_whole) .none kV1 dc1 pm1 an1 cd1 ct1), sl1⟩) (c1 : PySem.W.codeIn K cd1 "is_whole" = true) (k1 : PySem.W.keepIn K (.ref f1) = true)
    (a2 : PySem.W.nsIn K mainGlobals "is_letters" = some (some (.ref f2)))
    (l2 : K.lookup f2 = some ⟨oc2, od2, .func (PySem.W.fnOf "is_letters" "is_letters" (defArgs s_is_letters) (defBody s_is_letters) (defScope s_is_letters) .none kV2 dc2 pm2 an2 cd2 ct2), sl2⟩) (c2 : PySem.W.codeIn K cd2 "is_letters" = true) (k2 : PySem.W.keepIn K (.ref f2) = true)
    (a3 : PySem.W.nsIn K mainGlobals "is_value" = some (some (.ref f3)))
    (l3 : K.lookup f3 = some ⟨oc3, od3, .func (PySem.W.fnOf "is_value" "is_value" (defArgs s_is_value) (defBody s_is_value) (defScope s_is_value) .none kV3 dc3 pm3 an3 cd3 ct3), sl3⟩) (c3 : PySem.W.codeIn K cd3 "is_value" = true) (k3 : PySem.W.keepIn K (.ref f3) = true)
    (a4 : PySem.W.nsIn K mainGlobals "check_letters" = some (some (.ref f4)))
    (l4 : K.lookup f4 = some ⟨oc4, od4, .func (PySem.W.fnOf "check_letters" "check_letters" (defArgs s_check_letters) (defBody s_check_letters) (defScope s_check_letters) .none kV4 dc4 pm4 an4 cd4 ct4), sl4⟩) (c4 : PySem.W.codeIn K cd4 "check_letters" = true) (k4 : PySem.W.keepIn K (.ref f4) = true)
    (a5 : PySem.W.nsIn K mainGlobals "check_value" = some (some (.ref f5)))
    (l5 : K.lookup f5 = some ⟨oc5, od5, .func (PySem.W.fnOf "check_value" "check_value" (defArgs s_check_value) (defBody s_check_value) (defScope s_check_value) .none kV5 dc5 pm5 an5 cd5 ct5), sl5⟩) (c5 : PySem.W.codeIn K cd5 "check_value" = true) (k5 : PySem.W.keepIn K (.ref f5) = true)
    (a6 : PySem.W.findIn K (.ref C) "__init__" = some (some (.ref f6))) (i6 : PySem.W.isFn K (.ref f6) = true)
    (l6 : K.lookup f6 = some ⟨oc6, od6, .func (PySem.W.fnOf "__init__" "Machine.__init__" (defArgs s_Machine_init) (defBody s_Machine_init) (defScope s_Machine_init) .none kV6 dc6 pm6 an6 cd6 ct6), sl6⟩) (c6 : PySem.W.codeIn K cd6 "Machine.__init__" = true) (k6 : PySem.W.keepIn K (.ref f6) = true)
    (a7 : PySem.W.findIn K (.ref C) "letters" = some (some (.ref p7))) (ag7 : PySem.W.specialIn K (.ref p7) "__get__" = some (some (.builtin "property.__get__"))) (at7 : PySem.W.takesIn K (.ref p7) = some true) (ar7 : PySem.W.recIn K p7 "property" = some (.ref f7 :: rest7))
    (l7 : K.lookup f7 = some ⟨oc7, od7, .func (PySem.W.fnOf "letters" "Machine.letters" (defArgs s_Machine_letters) (defBody s_Machine_letters) (defScope s_Machine_letters) .none kV7 dc7 pm7 an7 cd7 ct7), sl7⟩) (c7 : PySem.W.codeIn K cd7 "Machine.letters" = true) (k7 : PySem.W.keepIn K (.ref f7) = true)
    (a8 : PySem.W.findIn K (.ref C) "rows" = some (some (.ref p8))) (ag8 : PySem.W.specialIn K (.ref p8) "__get__" = some (some (.builtin "property.__get__"))) (at8 : PySem.W.takesIn K (.ref p8) = some true) (ar8 : PySem.W.recIn K p8 "property" = some (.ref f8 :: rest8))
    (l8 : K.lookup f8 = some ⟨oc8, od8, .func (PySem.W.fnOf "rows" "Machine.rows" (defArgs s_Machine_rows) (defBody s_Machine_rows) (defScope s_Machine_rows) .none kV8 dc8 pm8 an8 cd8 ct8), sl8⟩) (c8 : PySem.W.codeIn K cd8 "Machine.rows" = true) (k8 : PySem.W.keepIn K (.ref f8) = true)
    (a9 : PySem.W.findIn K (.ref C) "turn" = some (some (.ref f9))) (i9 : PySem.W.isFn K (.ref f9) = true)
    (l9 : K.lookup f9 = some ⟨oc9, od9, .func (PySem.W.fnOf "turn" "Machine.turn" (defArgs s_Machine_turn) (defBody s_Machine_turn) (defScope s_Machine_turn) .none kV9 dc9 pm9 an9 cd9 ct9), sl9⟩) (c9 : PySem.W.codeIn K cd9 "Machine.turn" = true) (k9 : PySem.W.keepIn K (.ref f9) = true)
    (a10 : PySem.W.findIn K (.ref C) "made" = some (some (.ref f10))) (i10 : PySem.W.isFn K (.ref f10) = true)
    (l10 : K.lookup f10 = some ⟨oc10, od10, .func (PySem.W.fnOf "made" "Machine.made" (defArgs s_Machine_made) (defBody s_Machine_made) (defScope s_Machine_made) .none kV10 dc10 pm10 an10 cd10 ct10), sl10⟩) (c10 : PySem.W.codeIn K cd10 "Machine.made" = true) (k10 : PySem.W.keepIn K (.ref f10) = true)
    (a11 : PySem.W.findIn K (.ref C) "_after" = some (some (.ref f11))) (i11 : PySem.W.isFn K (.ref f11) = true)
    (l11 : K.lookup f11 = some ⟨oc11, od11, .func (PySem.W.fnOf "_after" "Machine._after" (defArgs s_Machine__after) (defBody s_Machine__after) (defScope s_Machine__after) .none kV11 dc11 pm11 an11 cd11 ct11), sl11⟩) (c11 : PySem.W.codeIn K cd11 "Machine._after" = true) (k11 : PySem.W.keepIn K (.ref f11) = true)
    (a12 : PySem.W.nsIn K mainGlobals "check_rows" = some (some (.ref f12)))
    (l12 : K.lookup f12 = some ⟨oc12, od12, .func (PySem.W.fnOf "check_rows" "check_rows" (defArgs s_check_rows) (defBody s_check_rows) (defScope s_check_rows) .none kV12 dc12 pm12 an12 cd12 ct12), sl12⟩) (c12 : PySem.W.codeIn K cd12 "check_rows" = true) (k12 : PySem.W.keepIn K (.ref f12) = true)
    (a13 : PySem.W.nsIn K mainGlobals "is_row" = some (some (.ref f13)))
    (l13 : K.lookup f13 = some ⟨oc13, od13, .func (PySem.W.fnOf "is_row" "is_row" (defArgs s_is_row) (defBody s_is_row) (defScope s_is_row) .none kV13 dc13 pm13 an13 cd13 ct13), sl13⟩) (c13 : PySem.W.codeIn K cd13 "is_row" = true) (k13 : PySem.W.keepIn K (.ref f13) = true)
    (a14 : PySem.W.nsIn K mainGlobals "is_turn" = some (some (.ref f14)))
    (l14 : K.lookup f14 = some ⟨oc14, od14, .func (PySem.W.fnOf "is_turn" "is_turn" (defArgs s_is_turn) (defBody s_is_turn) (defScope s_is_turn) .none kV14 dc14 pm14 an14 cd14 ct14), sl14⟩) (c14 : PySem.W.codeIn K cd14 "is_turn" = true) (k14 : PySem.W.keepIn K (.ref f14) = true)
    (a15 : PySem.W.nsIn K mainGlobals "check_machine" = some (some (.ref f15)))
    (l15 : K.lookup f15 = some ⟨oc15, od15, .func (PySem.W.fnOf "check_machine" "check_machine" (defArgs s_check_machine) (defBody s_check_machine) (defScope s_check_machine) .none kV15 dc15 pm15 an15 cd15 ct15), sl15⟩) (c15 : PySem.W.codeIn K cd15 "check_machine" = true) (k15 : PySem.W.keepIn K (.ref f15) = true)
    (a16 : PySem.W.nsIn K mainGlobals "is_condition" = some (some (.ref f16)))
    (l16 : K.lookup f16 = some ⟨oc16, od16, .func (PySem.W.fnOf "is_condition" "is_condition" (defArgs s_is_condition) (defBody s_is_condition) (defScope s_is_condition) .none kV16 dc16 pm16 an16 cd16 ct16), sl16⟩) (c16 : PySem.W.codeIn K cd16 "is_condition" = true) (k16 : PySem.W.keepIn K (.ref f16) = true)
    (a17 : PySem.W.nsIn K mainGlobals "meets" = some (some (.ref f17)))
    (l17 : K.lookup f17 = some ⟨oc17, od17, .func (PySem.W.fnOf "meets" "meets" (defArgs s_meets) (defBody s_meets) (defScope s_meets) .none kV17 dc17 pm17 an17 cd17 ct17), sl17⟩) (c17 : PySem.W.codeIn K cd17 "meets" = true) (k17 : PySem.W.keepIn K (.ref f17) = true)
    (a18 : PySem.W.nsIn K mainGlobals "stand" = some (some (.ref f18)))
    (l18 : K.lookup f18 = some ⟨oc18, od18, .func (PySem.W.fnOf "stand" "stand" (defArgs s_stand) (defBody s_stand) (defScope s_stand) .none kV18 dc18 pm18 an18 cd18 ct18), sl18⟩) (c18 : PySem.W.codeIn K cd18 "stand" = true) (k18 : PySem.W.keepIn K (.ref f18) = true)
    (a19 : PySem.W.nsIn K mainGlobals "is_condition_on" = some (some (.ref f19)))
    (l19 : K.lookup f19 = some ⟨oc19, od19, .func (PySem.W.fnOf "is_condition_on" "is_condition_on" (defArgs s_is_condition_on) (defBody s_is_condition_on) (defScope s_is_condition_on) .none kV19 dc19 pm19 an19 cd19 ct19), sl19⟩) (c19 : PySem.W.codeIn K cd19 "is_condition_on" = true) (k19 : PySem.W.keepIn K (.ref f19) = true)
    (a20 : PySem.W.nsIn K mainGlobals "check_condition" = some (some (.ref f20)))
    (l20 : K.lookup f20 = some ⟨oc20, od20, .func (PySem.W.fnOf "check_condition" "check_condition" (defArgs s_check_condition) (defBody s_check_condition) (defScope s_check_condition) .none kV20 dc20 pm20 an20 cd20 ct20), sl20⟩) (c20 : PySem.W.codeIn K cd20 "check_condition" = true) (k20 : PySem.W.keepIn K (.ref f20) = true)
    (a21 : PySem.W.nsIn K mainGlobals "first_stand" = some (some (.ref f21)))
    (l21 : K.lookup f21 = some ⟨oc21, od21, .func (PySem.W.fnOf "first_stand" "first_stand" (defArgs s_first_stand) (defBody s_first_stand) (defScope s_first_stand) .none kV21 dc21 pm21 an21 cd21 ct21), sl21⟩) (c21 : PySem.W.codeIn K cd21 "first_stand" = true) (k21 : PySem.W.keepIn K (.ref f21) = true)
    (a22 : PySem.W.nsIn K mainGlobals "next_stand" = some (some (.ref f22)))
    (l22 : K.lookup f22 = some ⟨oc22, od22, .func (PySem.W.fnOf "next_stand" "next_stand" (defArgs s_next_stand) (defBody s_next_stand) (defScope s_next_stand) .none kV22 dc22 pm22 an22 cd22 ct22), sl22⟩) (c22 : PySem.W.codeIn K cd22 "next_stand" = true) (k22 : PySem.W.keepIn K (.ref f22) = true)
    (a23 : PySem.W.nsIn K mainGlobals "is_met" = some (some (.ref f23)))
    (l23 : K.lookup f23 = some ⟨oc23, od23, .func (PySem.W.fnOf "is_met" "is_met" (defArgs s_is_met) (defBody s_is_met) (defScope s_is_met) .none kV23 dc23 pm23 an23 cd23 ct23), sl23⟩) (c23 : PySem.W.codeIn K cd23 "is_met" = true) (k23 : PySem.W.keepIn K (.ref f23) = true)
    (a24 : PySem.W.nsIn K mainGlobals "next_matched" = some (some (.ref f24)))
    (l24 : K.lookup f24 = some ⟨oc24, od24, .func (PySem.W.fnOf "next_matched" "next_matched" (defArgs s_next_matched) (defBody s_next_matched) (defScope s_next_matched) .none kV24 dc24 pm24 an24 cd24 ct24), sl24⟩) (c24 : PySem.W.codeIn K cd24 "next_matched" = true) (k24 : PySem.W.keepIn K (.ref f24) = true)
    (a25 : PySem.W.nsIn K mainGlobals "next_beside" = some (some (.ref f25)))
    (l25 : K.lookup f25 = some ⟨oc25, od25, .func (PySem.W.fnOf "next_beside" "next_beside" (defArgs s_next_beside) (defBody s_next_beside) (defScope s_next_beside) .none kV25 dc25 pm25 an25 cd25 ct25), sl25⟩) (c25 : PySem.W.codeIn K cd25 "next_beside" = true) (k25 : PySem.W.keepIn K (.ref f25) = true)
    (a26 : PySem.W.nsIn K mainGlobals "next_places" = some (some (.ref f26)))
    (l26 : K.lookup f26 = some ⟨oc26, od26, .func (PySem.W.fnOf "next_places" "next_places" (defArgs s_next_places) (defBody s_next_places) (defScope s_next_places) .none kV26 dc26 pm26 an26 cd26 ct26), sl26⟩) (c26 : PySem.W.codeIn K cd26 "next_places" = true) (k26 : PySem.W.keepIn K (.ref f26) = true)
    (a27 : PySem.W.nsIn K mainGlobals "with_skips" = some (some (.ref f27)))
    (l27 : K.lookup f27 = some ⟨oc27, od27, .func (PySem.W.fnOf "with_skips" "with_skips" (defArgs s_with_skips) (defBody s_with_skips) (defScope s_with_skips) .none kV27 dc27 pm27 an27 cd27 ct27), sl27⟩) (c27 : PySem.W.codeIn K cd27 "with_skips" = true) (k27 : PySem.W.keepIn K (.ref f27) = true)
    (a28 : PySem.W.nsIn K mainGlobals "_law_number" = some (some (.ref f28)))
    (l28 : K.lookup f28 = some ⟨oc28, od28, .func (PySem.W.fnOf "_law_number" "_law_number" (defArgs s_law_number) (defBody s_law_number) (defScope s_law_number) .none kV28 dc28 pm28 an28 cd28 ct28), sl28⟩) (c28 : PySem.W.codeIn K cd28 "_law_number" = true) (k28 : PySem.W.keepIn K (.ref f28) = true)
    (a29 : PySem.W.nsIn K mainGlobals "_law_letters" = some (some (.ref f29)))
    (l29 : K.lookup f29 = some ⟨oc29, od29, .func (PySem.W.fnOf "_law_letters" "_law_letters" (defArgs s_law_letters) (defBody s_law_letters) (defScope s_law_letters) .none kV29 dc29 pm29 an29 cd29 ct29), sl29⟩) (c29 : PySem.W.codeIn K cd29 "_law_letters" = true) (k29 : PySem.W.keepIn K (.ref f29) = true)
    (a30 : PySem.W.nsIn K mainGlobals "_law_rows" = some (some (.ref f30)))
    (l30 : K.lookup f30 = some ⟨oc30, od30, .func (PySem.W.fnOf "_law_rows" "_law_rows" (defArgs s_law_rows) (defBody s_law_rows) (defScope s_law_rows) .none kV30 dc30 pm30 an30 cd30 ct30), sl30⟩) (c30 : PySem.W.codeIn K cd30 "_law_rows" = true) (k30 : PySem.W.keepIn K (.ref f30) = true)
    (a31 : PySem.W.nsIn K mainGlobals "_law_value" = some (some (.ref f31)))
    (l31 : K.lookup f31 = some ⟨oc31, od31, .func (PySem.W.fnOf "_law_value" "_law_value" (defArgs s_law_value) (defBody s_law_value) (defScope s_law_value) .none kV31 dc31 pm31 an31 cd31 ct31), sl31⟩) (c31 : PySem.W.codeIn K cd31 "_law_value" = true) (k31 : PySem.W.keepIn K (.ref f31) = true)
    (a32 : PySem.W.nsIn K mainGlobals "_law_turn" = some (some (.ref f32)))
    (l32 : K.lookup f32 = some ⟨oc32, od32, .func (PySem.W.fnOf "_law_turn" "_law_turn" (defArgs s_law_turn) (defBody s_law_turn) (defScope s_law_turn) .none kV32 dc32 pm32 an32 cd32 ct32), sl32⟩) (c32 : PySem.W.codeIn K cd32 "_law_turn" = true) (k32 : PySem.W.keepIn K (.ref f32) = true)
    (a33 : PySem.W.nsIn K mainGlobals "_law_ends" = some (some (.ref f33)))
    (l33 : K.lookup f33 = some ⟨oc33, od33, .func (PySem.W.fnOf "_law_ends" "_law_ends" (defArgs s_law_ends) (defBody s_law_ends) (defScope s_law_ends) .none kV33 dc33 pm33 an33 cd33 ct33), sl33⟩) (c33 : PySem.W.codeIn K cd33 "_law_ends" = true) (k33 : PySem.W.keepIn K (.ref f33) = true)
    (a34 : PySem.W.nsIn K mainGlobals "_law_condition" = some (some (.ref f34)))
    (l34 : K.lookup f34 = some ⟨oc34, od34, .func (PySem.W.fnOf "_law_condition" "_law_condition" (defArgs s_law_condition) (defBody s_law_condition) (defScope s_law_condition) .none kV34 dc34 pm34 an34 cd34 ct34), sl34⟩) (c34 : PySem.W.codeIn K cd34 "_law_condition" = true) (k34 : PySem.W.keepIn K (.ref f34) = true)
    (a35 : PySem.W.nsIn K mainGlobals "_law_led" = some (some (.ref f35)))
    (l35 : K.lookup f35 = some ⟨oc35, od35, .func (PySem.W.fnOf "_law_led" "_law_led" (defArgs s_law_led) (defBody s_law_led) (defScope s_law_led) .none kV35 dc35 pm35 an35 cd35 ct35), sl35⟩) (c35 : PySem.W.codeIn K cd35 "_law_led" = true) (k35 : PySem.W.keepIn K (.ref f35) = true)
    (a36 : PySem.W.nsIn K mainGlobals "_law_first_stand" = some (some (.ref f36)))
    (l36 : K.lookup f36 = some ⟨oc36, od36, .func (PySem.W.fnOf "_law_first_stand" "_law_first_stand" (defArgs s_law_first_stand) (defBody s_law_first_stand) (defScope s_law_first_stand) .none kV36 dc36 pm36 an36 cd36 ct36), sl36⟩) (c36 : PySem.W.codeIn K cd36 "_law_first_stand" = true) (k36 : PySem.W.keepIn K (.ref f36) = true)
    (a37 : PySem.W.nsIn K mainGlobals "_law_beside" = some (some (.ref f37)))
    (l37 : K.lookup f37 = some ⟨oc37, od37, .func (PySem.W.fnOf "_law_beside" "_law_beside" (defArgs s_law_beside) (defBody s_law_beside) (defScope s_law_beside) .none kV37 dc37 pm37 an37 cd37 ct37), sl37⟩) (c37 : PySem.W.codeIn K cd37 "_law_beside" = true) (k37 : PySem.W.keepIn K (.ref f37) = true)
    (a38 : PySem.W.nsIn K mainGlobals "_law_next_stand" = some (some (.ref f38)))
    (l38 : K.lookup f38 = some ⟨oc38, od38, .func (PySem.W.fnOf "_law_next_stand" "_law_next_stand" (defArgs s_law_next_stand) (defBody s_law_next_stand) (defScope s_law_next_stand) .none kV38 dc38 pm38 an38 cd38 ct38), sl38⟩) (c38 : PySem.W.codeIn K cd38 "_law_next_stand" = true) (k38 : PySem.W.keepIn K (.ref f38) = true)
    (a39 : PySem.W.nsIn K mainGlobals "_law_met" = some (some (.ref f39)))
    (l39 : K.lookup f39 = some ⟨oc39, od39, .func (PySem.W.fnOf "_law_met" "_law_met" (defArgs s_law_met) (defBody s_law_met) (defScope s_law_met) .none kV39 dc39 pm39 an39 cd39 ct39), sl39⟩) (c39 : PySem.W.codeIn K cd39 "_law_met" = true) (k39 : PySem.W.keepIn K (.ref f39) = true)
    (a40 : PySem.W.nsIn K mainGlobals "_law_fits" = some (some (.ref f40)))
    (l40 : K.lookup f40 = some ⟨oc40, od40, .func (PySem.W.fnOf "_law_fits" "_law_fits" (defArgs s_law_fits) (defBody s_law_fits) (defScope s_law_fits) .none kV40 dc40 pm40 an40 cd40 ct40), sl40⟩) (c40 : PySem.W.codeIn K cd40 "_law_fits" = true) (k40 : PySem.W.keepIn K (.ref f40) = true)
    (a41 : PySem.W.nsIn K mainGlobals "_law_is_met" = some (some (.ref f41)))
    (l41 : K.lookup f41 = some ⟨oc41, od41, .func (PySem.W.fnOf "_law_is_met" "_law_is_met" (defArgs s_law_is_met) (defBody s_law_is_met) (defScope s_law_is_met) .none kV41 dc41 pm41 an41 cd41 ct41), sl41⟩) (c41 : PySem.W.codeIn K cd41 "_law_is_met" = true) (k41 : PySem.W.keepIn K (.ref f41) = true)
    (a42 : PySem.W.nsIn K mainGlobals "_law_is_condition" = some (some (.ref f42)))
    (l42 : K.lookup f42 = some ⟨oc42, od42, .func (PySem.W.fnOf "_law_is_condition" "_law_is_condition" (defArgs s_law_is_condition) (defBody s_law_is_condition) (defScope s_law_is_condition) .none kV42 dc42 pm42 an42 cd42 ct42), sl42⟩) (c42 : PySem.W.codeIn K cd42 "_law_is_condition" = true) (k42 : PySem.W.keepIn K (.ref f42) = true)
    (a43 : PySem.W.nsIn K mainGlobals "_law_bent" = some (some (.ref f43)))
    (l43 : K.lookup f43 = some ⟨oc43, od43, .func (PySem.W.fnOf "_law_bent" "_law_bent" (defArgs s_law_bent) (defBody s_law_bent) (defScope s_law_bent) .none kV43 dc43 pm43 an43 cd43 ct43), sl43⟩) (c43 : PySem.W.codeIn K cd43 "_law_bent" = true) (k43 : PySem.W.keepIn K (.ref f43) = true)
    (a44 : PySem.W.nsIn K mainGlobals "law" = some (some (.ref f44)))
    (l44 : K.lookup f44 = some ⟨oc44, od44, .func (PySem.W.fnOf "law" "law" (defArgs s_law) (defBody s_law) (defScope s_law) .none kV44 dc44 pm44 an44 cd44 ct44), sl44⟩) (c44 : PySem.W.codeIn K cd44 "law" = true) (k44 : PySem.W.keepIn K (.ref f44) = true)
    (pg : PySem.W.plainGet K C Str.empty = true) (hd : PySem.W.hasDictIn K C = true) (po : PySem.W.plainOver K C = true) (sa : PySem.W.findIn K (.ref C) "__setattr__" = some (some (.builtin "object.__setattr__"))) (mk : PySem.W.makesIn K C = true) (kc : PySem.W.keepIn K (.ref C) = true) (iA : PySem.W.findIn K (.ref C) "__class__" = some (some (.builtin "object.__class__"))) (iN : PySem.W.specialIn K (.builtin "object.__class__") "__get__" = some (some (.builtin "getset_descriptor.__get__"))) (iT : PySem.W.takesIn K (.builtin "object.__class__") = some true) (iM : PySem.W.mroIn K C (.type "object") = some true) (ne : PySem.W.findIn K (.ref C) "__ne__" = some (some (.builtin "object.__ne__")))
    (na0 : PySem.W.findIn K (.ref C) "_letters" = some none)
    (na1 : PySem.W.findIn K (.ref C) "_rows" = some none)
    (ccSIGNS : PySem.W.nsIn K mainGlobals "SIGNS" = some (some (.str "ABCDEFGHIJKLMNOPQRSTUVWXYZ_abcdefghijklmnopqrstuvwxyz" tkSIGNS)))
    (ccMOST_STATES : PySem.W.nsIn K mainGlobals "MOST_STATES" = some (some (.int 6 tkMOST_STATES)))
    (ccMOST_SIGNS : PySem.W.nsIn K mainGlobals "MOST_SIGNS" = some (some (.int 4 tkMOST_SIGNS)))
    (ccUNLIKE : PySem.W.nsIn K mainGlobals "UNLIKE" = some (some (.int (-1) tkUNLIKE)))
    (ccAHEAD : PySem.W.nsIn K mainGlobals "AHEAD" = some (some (.int (-1) tkAHEAD)))
    (ccBEHIND : PySem.W.nsIn K mainGlobals "BEHIND" = some (some (.int (-2) tkBEHIND)))
    (ccKINDS : PySem.W.nsIn K mainGlobals "KINDS" = some (some (.ref tkKINDS))) (llKINDS : K.lookup tkKINDS = some ⟨.type "tuple", odKINDS, .seq #[.str "equal" uKINDS0, .str "begins" uKINDS1, .str "between" uKINDS2, .str "like" uKINDS3] nnKINDS, slKINDS⟩)
    (zall : PySem.W.nsIn K mainGlobals "all" = some none)
    (zany : PySem.W.nsIn K mainGlobals "any" = some none)
    (zbool : PySem.W.nsIn K mainGlobals "bool" = some none)
    (zenumerate : PySem.W.nsIn K mainGlobals "enumerate" = some none)
    (zint : PySem.W.nsIn K mainGlobals "int" = some none)
    (zisinstance : PySem.W.nsIn K mainGlobals "isinstance" = some none)
    (zlen : PySem.W.nsIn K mainGlobals "len" = some none)
    (zlist : PySem.W.nsIn K mainGlobals "list" = some none)
    (zrange : PySem.W.nsIn K mainGlobals "range" = some none)
    (zset : PySem.W.nsIn K mainGlobals "set" = some none)
    (zsorted : PySem.W.nsIn K mainGlobals "sorted" = some none)
    (zstr : PySem.W.nsIn K mainGlobals "str" = some none)
    (zsum : PySem.W.nsIn K mainGlobals "sum" = some none)
    (zsuper : PySem.W.nsIn K mainGlobals "super" = some none)
    (ztuple : PySem.W.nsIn K mainGlobals "tuple" = some none)
    : ∃ A : Ad, Txt K mg A ∧ A.a_law = fa := by
  have e := hfa.symm.trans (PySem.W.mg_of X G a44)
  cases e
  exact ⟨{
    a_is_whole := f1
    d_is_whole := PySem.W.fnOf "is_whole" "is_whole" (defArgs s_is_whole) (defBody s_is_whole) (defScope s_is_whole) .none kV1 dc1 pm1 an1 cd1 ct1
    a_is_letters := f2
    d_is_letters := PySem.W.fnOf "is_letters" "is_letters" (defArgs s_is_letters) (defBody s_is_letters) (defScope s_is_letters) .none kV2 dc2 pm2 an2 cd2 ct2
    a_is_value := f3
    d_is_value := PySem.W.fnOf "is_value" "is_value" (defArgs s_is_value) (defBody s_is_value) (defScope s_is_value) .none kV3 dc3 pm3 an3 cd3 ct3
    a_check_letters := f4
    d_check_letters := PySem.W.fnOf "check_letters" "check_letters" (defArgs s_check_letters) (defBody s_check_letters) (defScope s_check_letters) .none kV4 dc4 pm4 an4 cd4 ct4
    a_check_value := f5
    d_check_value := PySem.W.fnOf "check_value" "check_value" (defArgs s_check_value) (defBody s_check_value) (defScope s_check_value) .none kV5 dc5 pm5 an5 cd5 ct5
    a_Machine_init := f6
    d_Machine_init := PySem.W.fnOf "__init__" "Machine.__init__" (defArgs s_Machine_init) (defBody s_Machine_init) (defScope s_Machine_init) .none kV6 dc6 pm6 an6 cd6 ct6
    a_Machine_letters := f7
    d_Machine_letters := PySem.W.fnOf "letters" "Machine.letters" (defArgs s_Machine_letters) (defBody s_Machine_letters) (defScope s_Machine_letters) .none kV7 dc7 pm7 an7 cd7 ct7
    a_Machine_rows := f8
    d_Machine_rows := PySem.W.fnOf "rows" "Machine.rows" (defArgs s_Machine_rows) (defBody s_Machine_rows) (defScope s_Machine_rows) .none kV8 dc8 pm8 an8 cd8 ct8
    a_Machine_turn := f9
    d_Machine_turn := PySem.W.fnOf "turn" "Machine.turn" (defArgs s_Machine_turn) (defBody s_Machine_turn) (defScope s_Machine_turn) .none kV9 dc9 pm9 an9 cd9 ct9
    a_Machine_made := f10
    d_Machine_made := PySem.W.fnOf "made" "Machine.made" (defArgs s_Machine_made) (defBody s_Machine_made) (defScope s_Machine_made) .none kV10 dc10 pm10 an10 cd10 ct10
    a_Machine__after := f11
    d_Machine__after := PySem.W.fnOf "_after" "Machine._after" (defArgs s_Machine__after) (defBody s_Machine__after) (defScope s_Machine__after) .none kV11 dc11 pm11 an11 cd11 ct11
    a_check_rows := f12
    d_check_rows := PySem.W.fnOf "check_rows" "check_rows" (defArgs s_check_rows) (defBody s_check_rows) (defScope s_check_rows) .none kV12 dc12 pm12 an12 cd12 ct12
    a_is_row := f13
    d_is_row := PySem.W.fnOf "is_row" "is_row" (defArgs s_is_row) (defBody s_is_row) (defScope s_is_row) .none kV13 dc13 pm13 an13 cd13 ct13
    a_is_turn := f14
    d_is_turn := PySem.W.fnOf "is_turn" "is_turn" (defArgs s_is_turn) (defBody s_is_turn) (defScope s_is_turn) .none kV14 dc14 pm14 an14 cd14 ct14
    a_check_machine := f15
    d_check_machine := PySem.W.fnOf "check_machine" "check_machine" (defArgs s_check_machine) (defBody s_check_machine) (defScope s_check_machine) .none kV15 dc15 pm15 an15 cd15 ct15
    a_is_condition := f16
    d_is_condition := PySem.W.fnOf "is_condition" "is_condition" (defArgs s_is_condition) (defBody s_is_condition) (defScope s_is_condition) .none kV16 dc16 pm16 an16 cd16 ct16
    a_meets := f17
    d_meets := PySem.W.fnOf "meets" "meets" (defArgs s_meets) (defBody s_meets) (defScope s_meets) .none kV17 dc17 pm17 an17 cd17 ct17
    a_stand := f18
    d_stand := PySem.W.fnOf "stand" "stand" (defArgs s_stand) (defBody s_stand) (defScope s_stand) .none kV18 dc18 pm18 an18 cd18 ct18
    a_is_condition_on := f19
    d_is_condition_on := PySem.W.fnOf "is_condition_on" "is_condition_on" (defArgs s_is_condition_on) (defBody s_is_condition_on) (defScope s_is_condition_on) .none kV19 dc19 pm19 an19 cd19 ct19
    a_check_condition := f20
    d_check_condition := PySem.W.fnOf "check_condition" "check_condition" (defArgs s_check_condition) (defBody s_check_condition) (defScope s_check_condition) .none kV20 dc20 pm20 an20 cd20 ct20
    a_first_stand := f21
    d_first_stand := PySem.W.fnOf "first_stand" "first_stand" (defArgs s_first_stand) (defBody s_first_stand) (defScope s_first_stand) .none kV21 dc21 pm21 an21 cd21 ct21
    a_next_stand := f22
    d_next_stand := PySem.W.fnOf "next_stand" "next_stand" (defArgs s_next_stand) (defBody s_next_stand) (defScope s_next_stand) .none kV22 dc22 pm22 an22 cd22 ct22
    a_is_met := f23
    d_is_met := PySem.W.fnOf "is_met" "is_met" (defArgs s_is_met) (defBody s_is_met) (defScope s_is_met) .none kV23 dc23 pm23 an23 cd23 ct23
    a_next_matched := f24
    d_next_matched := PySem.W.fnOf "next_matched" "next_matched" (defArgs s_next_matched) (defBody s_next_matched) (defScope s_next_matched) .none kV24 dc24 pm24 an24 cd24 ct24
    a_next_beside := f25
    d_next_beside := PySem.W.fnOf "next_beside" "next_beside" (defArgs s_next_beside) (defBody s_next_beside) (defScope s_next_beside) .none kV25 dc25 pm25 an25 cd25 ct25
    a_next_places := f26
    d_next_places := PySem.W.fnOf "next_places" "next_places" (defArgs s_next_places) (defBody s_next_places) (defScope s_next_places) .none kV26 dc26 pm26 an26 cd26 ct26
    a_with_skips := f27
    d_with_skips := PySem.W.fnOf "with_skips" "with_skips" (defArgs s_with_skips) (defBody s_with_skips) (defScope s_with_skips) .none kV27 dc27 pm27 an27 cd27 ct27
    a_law_number := f28
    d_law_number := PySem.W.fnOf "_law_number" "_law_number" (defArgs s_law_number) (defBody s_law_number) (defScope s_law_number) .none kV28 dc28 pm28 an28 cd28 ct28
    a_law_letters := f29
    d_law_letters := PySem.W.fnOf "_law_letters" "_law_letters" (defArgs s_law_letters) (defBody s_law_letters) (defScope s_law_letters) .none kV29 dc29 pm29 an29 cd29 ct29
    a_law_rows := f30
    d_law_rows := PySem.W.fnOf "_law_rows" "_law_rows" (defArgs s_law_rows) (defBody s_law_rows) (defScope s_law_rows) .none kV30 dc30 pm30 an30 cd30 ct30
    a_law_value := f31
    d_law_value := PySem.W.fnOf "_law_value" "_law_value" (defArgs s_law_value) (defBody s_law_value) (defScope s_law_value) .none kV31 dc31 pm31 an31 cd31 ct31
    a_law_turn := f32
    d_law_turn := PySem.W.fnOf "_law_turn" "_law_turn" (defArgs s_law_turn) (defBody s_law_turn) (defScope s_law_turn) .none kV32 dc32 pm32 an32 cd32 ct32
    a_law_ends := f33
    d_law_ends := PySem.W.fnOf "_law_ends" "_law_ends" (defArgs s_law_ends) (defBody s_law_ends) (defScope s_law_ends) .none kV33 dc33 pm33 an33 cd33 ct33
    a_law_condition := f34
    d_law_condition := PySem.W.fnOf "_law_condition" "_law_condition" (defArgs s_law_condition) (defBody s_law_condition) (defScope s_law_condition) .none kV34 dc34 pm34 an34 cd34 ct34
    a_law_led := f35
    d_law_led := PySem.W.fnOf "_law_led" "_law_led" (defArgs s_law_led) (defBody s_law_led) (defScope s_law_led) .none kV35 dc35 pm35 an35 cd35 ct35
    a_law_first_stand := f36
    d_law_first_stand := PySem.W.fnOf "_law_first_stand" "_law_first_stand" (defArgs s_law_first_stand) (defBody s_law_first_stand) (defScope s_law_first_stand) .none kV36 dc36 pm36 an36 cd36 ct36
    a_law_beside := f37
    d_law_beside := PySem.W.fnOf "_law_beside" "_law_beside" (defArgs s_law_beside) (defBody s_law_beside) (defScope s_law_beside) .none kV37 dc37 pm37 an37 cd37 ct37
    a_law_next_stand := f38
    d_law_next_stand := PySem.W.fnOf "_law_next_stand" "_law_next_stand" (defArgs s_law_next_stand) (defBody s_law_next_stand) (defScope s_law_next_stand) .none kV38 dc38 pm38 an38 cd38 ct38
    a_law_met := f39
    d_law_met := PySem.W.fnOf "_law_met" "_law_met" (defArgs s_law_met) (defBody s_law_met) (defScope s_law_met) .none kV39 dc39 pm39 an39 cd39 ct39
    a_law_fits := f40
    d_law_fits := PySem.W.fnOf "_law_fits" "_law_fits" (defArgs s_law_fits) (defBody s_law_fits) (defScope s_law_fits) .none kV40 dc40 pm40 an40 cd40 ct40
    a_law_is_met := f41
    d_law_is_met := PySem.W.fnOf "_law_is_met" "_law_is_met" (defArgs s_law_is_met) (defBody s_law_is_met) (defScope s_law_is_met) .none kV41 dc41 pm41 an41 cd41 ct41
    a_law_is_condition := f42
    d_law_is_condition := PySem.W.fnOf "_law_is_condition" "_law_is_condition" (defArgs s_law_is_condition) (defBody s_law_is_condition) (defScope s_law_is_condition) .none kV42 dc42 pm42 an42 cd42 ct42
    a_law_bent := f43
    d_law_bent := PySem.W.fnOf "_law_bent" "_law_bent" (defArgs s_law_bent) (defBody s_law_bent) (defScope s_law_bent) .none kV43 dc43 pm43 an43 cd43 ct43
    a_law := fa
    d_law := PySem.W.fnOf "law" "law" (defArgs s_law) (defBody s_law) (defScope s_law) .none kV44 dc44 pm44 an44 cd44 ct44
    C := C
    pr_letters := p7
    pr_rows := p8
    t_SIGNS := tkSIGNS
    t_MOST_STATES := tkMOST_STATES
    t_MOST_SIGNS := tkMOST_SIGNS
    t_UNLIKE := tkUNLIKE
    t_AHEAD := tkAHEAD
    t_BEHIND := tkBEHIND
    t_KINDS := tkKINDS },
   {
    f_is_whole := ⟨fun_mk (st := s_is_whole) l1 c1 k1, PySem.W.mg_of X G a1, (fun_mk (st := s_is_whole) l1 c1 k1).binds (ps := ["thing"]) fun _ _ _ _ _ _ us hl => match us, hl with | [_], _ => rfl⟩
    f_is_letters := ⟨fun_mk (st := s_is_letters) l2 c2 k2, PySem.W.mg_of X G a2, (fun_mk (st := s_is_letters) l2 c2 k2).binds (ps := ["thing"]) fun _ _ _ _ _ _ us hl => match us, hl with | [_], _ => rfl⟩
    f_is_value := ⟨fun_mk (st := s_is_value) l3 c3 k3, PySem.W.mg_of X G a3, (fun_mk (st := s_is_value) l3 c3 k3).binds (ps := ["letters", "thing"]) fun _ _ _ _ _ _ us hl => match us, hl with | [_, _], _ => rfl⟩
    f_check_letters := ⟨fun_mk (st := s_check_letters) l4 c4 k4, PySem.W.mg_of X G a4, (fun_mk (st := s_check_letters) l4 c4 k4).binds (ps := ["letters"]) fun _ _ _ _ _ _ us hl => match us, hl with | [_], _ => rfl⟩
    f_check_value := ⟨fun_mk (st := s_check_value) l5 c5 k5, PySem.W.mg_of X G a5, (fun_mk (st := s_check_value) l5 c5 k5).binds (ps := ["letters", "value"]) fun _ _ _ _ _ _ us hl => match us, hl with | [_, _], _ => rfl⟩
    f_Machine_init := ⟨fun_mk (st := s_Machine_init) l6 c6 k6, (fun_mk (st := s_Machine_init) l6 c6 k6).binds (ps := ["self", "letters", "rows"]) fun _ _ _ _ _ _ us hl => match us, hl with | [_, _, _], _ => rfl⟩
    f_Machine_letters := ⟨fun_mk (st := s_Machine_letters) l7 c7 k7, (fun_mk (st := s_Machine_letters) l7 c7 k7).binds (ps := ["self"]) fun _ _ _ _ _ _ us hl => match us, hl with | [_], _ => rfl⟩
    f_Machine_rows := ⟨fun_mk (st := s_Machine_rows) l8 c8 k8, (fun_mk (st := s_Machine_rows) l8 c8 k8).binds (ps := ["self"]) fun _ _ _ _ _ _ us hl => match us, hl with | [_], _ => rfl⟩
    f_Machine_turn := ⟨fun_mk (st := s_Machine_turn) l9 c9 k9, (fun_mk (st := s_Machine_turn) l9 c9 k9).binds (ps := ["self", "state", "letter"]) fun _ _ _ _ _ _ us hl => match us, hl with | [_, _, _], _ => rfl⟩
    f_Machine_made := ⟨fun_mk (st := s_Machine_made) l10 c10 k10, (fun_mk (st := s_Machine_made) l10 c10 k10).binds (ps := ["self", "value"]) fun _ _ _ _ _ _ us hl => match us, hl with | [_, _], _ => rfl⟩
    f_Machine__after := ⟨fun_mk (st := s_Machine__after) l11 c11 k11, (fun_mk (st := s_Machine__after) l11 c11 k11).binds (ps := ["self", "value"]) fun _ _ _ _ _ _ us hl => match us, hl with | [_, _], _ => rfl⟩
    f_check_rows := ⟨fun_mk (st := s_check_rows) l12 c12 k12, PySem.W.mg_of X G a12, (fun_mk (st := s_check_rows) l12 c12 k12).binds (ps := ["letters", "rows"]) fun _ _ _ _ _ _ us hl => match us, hl with | [_, _], _ => rfl⟩
    f_is_row := ⟨fun_mk (st := s_is_row) l13 c13 k13, PySem.W.mg_of X G a13, (fun_mk (st := s_is_row) l13 c13 k13).binds (ps := ["letters", "many", "row"]) fun _ _ _ _ _ _ us hl => match us, hl with | [_, _, _], _ => rfl⟩
    f_is_turn := ⟨fun_mk (st := s_is_turn) l14 c14 k14, PySem.W.mg_of X G a14, (fun_mk (st := s_is_turn) l14 c14 k14).binds (ps := ["letters", "many", "turn"]) fun _ _ _ _ _ _ us hl => match us, hl with | [_, _, _], _ => rfl⟩
    f_check_machine := ⟨fun_mk (st := s_check_machine) l15 c15 k15, PySem.W.mg_of X G a15, (fun_mk (st := s_check_machine) l15 c15 k15).binds (ps := ["machine"]) fun _ _ _ _ _ _ us hl => match us, hl with | [_], _ => rfl⟩
    f_is_condition := ⟨fun_mk (st := s_is_condition) l16 c16 k16, PySem.W.mg_of X G a16, (fun_mk (st := s_is_condition) l16 c16 k16).binds (ps := ["machine", "thing"]) fun _ _ _ _ _ _ us hl => match us, hl with | [_, _], _ => rfl⟩
    f_meets := ⟨fun_mk (st := s_meets) l17 c17 k17, PySem.W.mg_of X G a17, (fun_mk (st := s_meets) l17 c17 k17).binds (ps := ["machine", "condition", "value"]) fun _ _ _ _ _ _ us hl => match us, hl with | [_, _, _], _ => rfl⟩
    f_stand := ⟨fun_mk (st := s_stand) l18 c18 k18, PySem.W.mg_of X G a18, (fun_mk (st := s_stand) l18 c18 k18).binds (ps := ["machine", "condition", "value"]) fun _ _ _ _ _ _ us hl => match us, hl with | [_, _, _], _ => rfl⟩
    f_is_condition_on := ⟨fun_mk (st := s_is_condition_on) l19 c19 k19, PySem.W.mg_of X G a19, (fun_mk (st := s_is_condition_on) l19 c19 k19).binds (ps := ["letters", "thing"]) fun _ _ _ _ _ _ us hl => match us, hl with | [_, _], _ => rfl⟩
    f_check_condition := ⟨fun_mk (st := s_check_condition) l20 c20 k20, PySem.W.mg_of X G a20, (fun_mk (st := s_check_condition) l20 c20 k20).binds (ps := ["letters", "condition"]) fun _ _ _ _ _ _ us hl => match us, hl with | [_, _], _ => rfl⟩
    f_first_stand := ⟨fun_mk (st := s_first_stand) l21 c21 k21, PySem.W.mg_of X G a21, (fun_mk (st := s_first_stand) l21 c21 k21).binds (ps := ["condition"]) fun _ _ _ _ _ _ us hl => match us, hl with | [_], _ => rfl⟩
    f_next_stand := ⟨fun_mk (st := s_next_stand) l22 c22 k22, PySem.W.mg_of X G a22, (fun_mk (st := s_next_stand) l22 c22 k22).binds (ps := ["letters", "condition", "now", "letter"]) fun _ _ _ _ _ _ us hl => match us, hl with | [_, _, _, _], _ => rfl⟩
    f_is_met := ⟨fun_mk (st := s_is_met) l23 c23 k23, PySem.W.mg_of X G a23, (fun_mk (st := s_is_met) l23 c23 k23).binds (ps := ["condition", "now"]) fun _ _ _ _ _ _ us hl => match us, hl with | [_, _], _ => rfl⟩
    f_next_matched := ⟨fun_mk (st := s_next_matched) l24 c24 k24, PySem.W.mg_of X G a24, (fun_mk (st := s_next_matched) l24 c24 k24).binds (ps := ["condition", "now", "letter"]) fun _ _ _ _ _ _ us hl => match us, hl with | [_, _, _], _ => rfl⟩
    f_next_beside := ⟨fun_mk (st := s_next_beside) l25 c25 k25, PySem.W.mg_of X G a25, (fun_mk (st := s_next_beside) l25 c25 k25).binds (ps := ["letters", "bound", "now", "letter"]) fun _ _ _ _ _ _ us hl => match us, hl with | [_, _, _, _], _ => rfl⟩
    f_next_places := ⟨fun_mk (st := s_next_places) l26 c26 k26, PySem.W.mg_of X G a26, (fun_mk (st := s_next_places) l26 c26 k26).binds (ps := ["pattern", "now", "letter"]) fun _ _ _ _ _ _ us hl => match us, hl with | [_, _, _], _ => rfl⟩
    f_with_skips := ⟨fun_mk (st := s_with_skips) l27 c27 k27, PySem.W.mg_of X G a27, (fun_mk (st := s_with_skips) l27 c27 k27).binds (ps := ["pattern", "places"]) fun _ _ _ _ _ _ us hl => match us, hl with | [_, _], _ => rfl⟩
    f_law_number := ⟨fun_mk (st := s_law_number) l28 c28 k28, PySem.W.mg_of X G a28, (fun_mk (st := s_law_number) l28 c28 k28).binds (ps := ["script", "index"]) fun _ _ _ _ _ _ us hl => match us, hl with | [_, _], _ => rfl⟩
    f_law_letters := ⟨fun_mk (st := s_law_letters) l29 c29 k29, PySem.W.mg_of X G a29, (fun_mk (st := s_law_letters) l29 c29 k29).binds (ps := ["script", "at"]) fun _ _ _ _ _ _ us hl => match us, hl with | [_, _], _ => rfl⟩
    f_law_rows := ⟨fun_mk (st := s_law_rows) l30 c30 k30, PySem.W.mg_of X G a30, (fun_mk (st := s_law_rows) l30 c30 k30).binds (ps := ["script", "at", "letters", "most"]) fun _ _ _ _ _ _ us hl => match us, hl with | [_, _, _, _], _ => rfl⟩
    f_law_value := ⟨fun_mk (st := s_law_value) l31 c31 k31, PySem.W.mg_of X G a31, (fun_mk (st := s_law_value) l31 c31 k31).binds (ps := ["script", "at", "letters", "most"]) fun _ _ _ _ _ _ us hl => match us, hl with | [_, _, _, _], _ => rfl⟩
    f_law_turn := ⟨fun_mk (st := s_law_turn) l32 c32 k32, PySem.W.mg_of X G a32, (fun_mk (st := s_law_turn) l32 c32 k32).binds (ps := ["letters", "rows", "state", "letter"]) fun _ _ _ _ _ _ us hl => match us, hl with | [_, _, _, _], _ => rfl⟩
    f_law_ends := ⟨fun_mk (st := s_law_ends) l33 c33 k33, PySem.W.mg_of X G a33, (fun_mk (st := s_law_ends) l33 c33 k33).binds (ps := ["letters", "rows", "value"]) fun _ _ _ _ _ _ us hl => match us, hl with | [_, _, _], _ => rfl⟩
    f_law_condition := ⟨fun_mk (st := s_law_condition) l34 c34 k34, PySem.W.mg_of X G a34, (fun_mk (st := s_law_condition) l34 c34 k34).binds (ps := ["script", "at", "letters"]) fun _ _ _ _ _ _ us hl => match us, hl with | [_, _, _], _ => rfl⟩
    f_law_led := ⟨fun_mk (st := s_law_led) l35 c35 k35, PySem.W.mg_of X G a35, (fun_mk (st := s_law_led) l35 c35 k35).binds (ps := ["text", "places"]) fun _ _ _ _ _ _ us hl => match us, hl with | [_, _], _ => rfl⟩
    f_law_first_stand := ⟨fun_mk (st := s_law_first_stand) l36 c36 k36, PySem.W.mg_of X G a36, (fun_mk (st := s_law_first_stand) l36 c36 k36).binds (ps := ["condition"]) fun _ _ _ _ _ _ us hl => match us, hl with | [_], _ => rfl⟩
    f_law_beside := ⟨fun_mk (st := s_law_beside) l37 c37 k37, PySem.W.mg_of X G a37, (fun_mk (st := s_law_beside) l37 c37 k37).binds (ps := ["letters", "bound", "place", "letter"]) fun _ _ _ _ _ _ us hl => match us, hl with | [_, _, _, _], _ => rfl⟩
    f_law_next_stand := ⟨fun_mk (st := s_law_next_stand) l38 c38 k38, PySem.W.mg_of X G a38, (fun_mk (st := s_law_next_stand) l38 c38 k38).binds (ps := ["letters", "condition", "mark", "letter"]) fun _ _ _ _ _ _ us hl => match us, hl with | [_, _, _, _], _ => rfl⟩
    f_law_met := ⟨fun_mk (st := s_law_met) l39 c39 k39, PySem.W.mg_of X G a39, (fun_mk (st := s_law_met) l39 c39 k39).binds (ps := ["condition", "mark"]) fun _ _ _ _ _ _ us hl => match us, hl with | [_, _], _ => rfl⟩
    f_law_fits := ⟨fun_mk (st := s_law_fits) l40 c40 k40, PySem.W.mg_of X G a40, (fun_mk (st := s_law_fits) l40 c40 k40).binds (ps := ["pattern", "text"]) fun _ _ _ _ _ _ us hl => match us, hl with | [_, _], _ => rfl⟩
    f_law_is_met := ⟨fun_mk (st := s_law_is_met) l41 c41 k41, PySem.W.mg_of X G a41, (fun_mk (st := s_law_is_met) l41 c41 k41).binds (ps := ["letters", "condition", "text"]) fun _ _ _ _ _ _ us hl => match us, hl with | [_, _, _], _ => rfl⟩
    f_law_is_condition := ⟨fun_mk (st := s_law_is_condition) l42 c42 k42, PySem.W.mg_of X G a42, (fun_mk (st := s_law_is_condition) l42 c42 k42).binds (ps := ["letters", "thing"]) fun _ _ _ _ _ _ us hl => match us, hl with | [_, _], _ => rfl⟩
    f_law_bent := ⟨fun_mk (st := s_law_bent) l43 c43 k43, PySem.W.mg_of X G a43, (fun_mk (st := s_law_bent) l43 c43 k43).binds (ps := ["seed", "letters", "condition"]) fun _ _ _ _ _ _ us hl => match us, hl with | [_, _, _], _ => rfl⟩
    f_law := ⟨fun_mk (st := s_law) l44 c44 k44, PySem.W.mg_of X G a44, (fun_mk (st := s_law) l44 c44 k44).binds (ps := ["script"]) fun _ _ _ _ _ _ us hl => match us, hl with | [_], _ => rfl⟩
    cl := ⟨pg, hd, po, sa⟩
    mkC := ⟨mk, a6, i6, kc⟩
    g_Machine := PySem.W.mg_of X G aC
    iA := iA
    iN := iN
    iT := iT
    iM := iM
    neC := ne
    no_letters := na0
    no_rows := na1
    p_letters := ⟨a7, ag7, at7, _, ar7⟩
    p_rows := ⟨a8, ag8, at8, _, ar8⟩
    m_turn := ⟨a9, i9, k9⟩
    m_made := ⟨a10, i10, k10⟩
    m__after := ⟨a11, i11, k11⟩
    c_SIGNS := PySem.W.mg_of X G ccSIGNS
    c_MOST_STATES := PySem.W.mg_of X G ccMOST_STATES
    c_MOST_SIGNS := PySem.W.mg_of X G ccMOST_SIGNS
    c_UNLIKE := PySem.W.mg_of X G ccUNLIKE
    c_AHEAD := PySem.W.mg_of X G ccAHEAD
    c_BEHIND := PySem.W.mg_of X G ccBEHIND
    c_KINDS := PySem.W.mg_of X G ccKINDS
    q_KINDS := ⟨_, _, _, llKINDS, rfl, rfl, by show 4 ≤ sizeLine; decide +kernel, (.cons ⟨_, rfl⟩ (.cons ⟨_, rfl⟩ (.cons ⟨_, rfl⟩ (.cons ⟨_, rfl⟩ .nil))))⟩
    n_all := PySem.W.mg_none_of X G zall
    n_any := PySem.W.mg_none_of X G zany
    n_bool := PySem.W.mg_none_of X G zbool
    n_enumerate := PySem.W.mg_none_of X G zenumerate
    n_int := PySem.W.mg_none_of X G zint
    n_isinstance := PySem.W.mg_none_of X G zisinstance
    n_len := PySem.W.mg_none_of X G zlen
    n_list := PySem.W.mg_none_of X G zlist
    n_range := PySem.W.mg_none_of X G zrange
    n_set := PySem.W.mg_none_of X G zset
    n_sorted := PySem.W.mg_none_of X G zsorted
    n_str := PySem.W.mg_none_of X G zstr
    n_sum := PySem.W.mg_none_of X G zsum
    n_super := PySem.W.mg_none_of X G zsuper
    n_tuple := PySem.W.mg_none_of X G ztuple }, rfl⟩
end K3
set_option Elab.async false
set_option linter.all false
set_option maxRecDepth 100000
set_option maxHeartbeats 4000000
namespace K3
open PySem PySem.Spec PyProof.Rows L2 FX
section
variable {P : Program} {w : World} {K : PySem.W.Frag} {mg : Str → Option Value} {base : Heap} {A : Ad}
def isWholeD (d : PyData) : Bool := isB "int" d && !isB "bool" d
def sp_is_whole (K : PySem.W.Frag) : Sp := fun vs H Q _ => ∃ (v : V) (d : PyData), vs = [v] ∧ Dp K H v d ∧ Q (.bl (isWholeD d)) H
theorem ok_is_whole (T : Txt K mg A) : FnOk P w K mg base CX0 1 A.a_is_whole A.d_is_whole ["thing"] (sp_is_whole K) := by
  refine T.f_is_whole.F.ok sc_is_whole (fun vs H Q E h => ?_) (fun cdv Ar outer s H vs Q E hr h => ?_)
  · obtain ⟨v, d, rfl, _⟩ := h
    rfl
  · obtain ⟨v, d, rfl, hd, q⟩ := h
    refine ⟨_, (pss_one (ps_ret (pe_and (pe_callB call_isi (by rfl) T.n_isinstance (by decide +kernel) (pa_cons (pv 0) (pa_cons (pe_bltn (v := .ty "int") (by rfl) T.n_int (by decide +kernel) rfl) pa_nil))) (pe_one (pe_not (pe_callB call_isi (by rfl) T.n_isinstance (by decide +kernel) (pa_cons (pv 0) (pa_cons (pe_bltn (v := .ty "bool") (by rfl) T.n_bool (by decide +kernel) rfl) pa_nil)))))))), ?_⟩
    obtain ⟨t, h1, h2⟩ := Dp.isB hd (c := "int") (by decide)
    obtain ⟨u, h3, h4⟩ := Dp.isB hd (c := "bool") (by decide)
    refine ⟨_, rfl, v, _, t, _, _, rfl, .ty _, h1, h2, _, rfl, ?_⟩
    unfold isWholeD at q
    cases e : FX.isB "int" d with
    | true =>
      rw [e] at q
      exact iteT ⟨_, rfl, v, _, u, _, _, rfl, .ty _, h3, h4, _, rfl, q⟩
    | false =>
      rw [e] at q
      exact iteF q
/-! texts that are letters -/
def sp_is_letters (K : PySem.W.Frag) : Sp := fun vs H Q _ => ∃ (z : Str), vs = [.str z] ∧ z ∈ L8 ∧ ∀ H', Same H H' → Q (.bl true) H'
theorem ok_is_letters (T : Txt K mg A) : FnOk P w K mg base CX0 1 A.a_is_letters A.d_is_letters ["thing"] (sp_is_letters K) := by
  refine T.f_is_letters.F.ok sc_is_letters (fun vs H Q E h => ?_) (fun cdv Ar outer s H vs Q E hr h => ?_)
  · obtain ⟨z, rfl, _⟩ := h
    rfl
  · obtain ⟨z, rfl, hz, q⟩ := h
    have hl := l8_len z hz
    have hsz : z.length ≤ sizeLine := Nat.le_trans hl.2 (by decide)
    refine ⟨_, (pss_cons (ps_if (PW.pt (pw_or (pt_not (pt_val (pe_callB call_isi (by rfl) T.n_isinstance (by decide +kernel) (pa_cons (pv 0) (pa_cons (pe_bltn (v := .ty "str") (by rfl) T.n_str (by decide +kernel) rfl) pa_nil))))) (pw_or1 (pt_not (pt_chain op_le op_le pe_int (pe_callB call_len_str (by rfl) T.n_len (by decide +kernel) (pa_cons (pv 0) pa_nil)) pe_int))))) (pss_one (ps_ret pe_bl)) pss_nil) (pss_one (ps_ret (pe_callB (cr_all rfl) (by rfl) T.n_all (by decide +kernel) (pa_cons (pe_lc (own := [("sign", 1)]) (g := (gName 1)) (tt := tYes) (by rfl) sc_is_letters.nd (pi_str (pv 0)) (blkOk_by (own := [("sign", 1)]) (N := ["thing", "sign"]) (sc := defScope s_is_letters) (by decide +kernel)) (fun _ _ _ _ _ => (pg_name (i := 1) sc_is_letters.nd rfl (Or.inl rfl))) (fun _ _ _ _ _ => pts_nil) (fun _ _ _ _ _ => by exact (pe_and (pe_cmpR op_in_sign (pv 1) (pe_glob (v := v_SIGNS) rfl T.c_SIGNS ⟨_, rfl⟩) rfl) (pe_one (pe_cmpR op_eq (pe_m1 PySem.F.slot_str_count PySem.F.type_str_count mt_count (pv 0) (pv 1)) pe_int (nomark _)))))) pa_nil))))), ?_⟩
    obtain ⟨t, h1, h2⟩ := Dp.isB (K := K) (H := H) (.str z) (c := "str") (by decide)
    refine ⟨_, rfl, _, _, t, _, _, rfl, .ty _, h1, h2, _, rfl, iteF ?_⟩
    refine ⟨_, rfl, z, rfl, hsz, _, _, rfl, rfl, _, rfl, ?_⟩
    rw [if_pos (decide_eq_true (by omega))]
    refine ⟨_, _, rfl, rfl, _, rfl, ?_⟩
    rw [show decide ((z.length : Int) ≤ 4) = true from decide_eq_true (by omega)]
    refine iteF ?_
    refine ⟨_, rfl, z, rfl, fun D hD => ?_⟩
    refine lc_rel walk_str (fun _ v _ => v = .bl true) (fun _ _ _ _ _ h => h) hD (by show z.length < _; exact Nat.lt_of_le_of_lt hl.2 (by decide)) (fun _ _ => trivial) ?_ ?_
    · rintro i x H1 H2 hi sm ⟨o, hd⟩ ⟨rfl, c, hc, rfl⟩ kk
      have hcz : c ∈ zs z := by
        have := Array.mem_of_getElem? hc
        simpa [zs] using this
      refine ⟨rfl, ?_⟩
      unfold tYes
      refine iteT ⟨_, rfl, c, _, rfl, rfl, _, rfl, ?_⟩
      rw [show decide (c ∈ (Str.ofString "ABCDEFGHIJKLMNOPQRSTUVWXYZ_abcdefghijklmnopqrstuvwxyz").cps.toList) = true from decide_eq_true (l8_signs z hz c hcz)]
      refine iteT ⟨_, rfl, ⟨_, rfl⟩, _, rfl, z, _, rfl, rfl, rfl, ?_⟩
      have e1 : Txt.count z ⟨#[c]⟩ = 1 := l8_count z hz c hcz
      rw [e1]
      exact kk _ _ (Same.refl _) rfl
    · intro H1 xs sm hx hn hv
      have e1 : xs = (List.replicate xs.length true).map V.bl := by
        rw [List.map_replicate]
        exact List.eq_replicate_iff.mpr ⟨rfl, fun b hb => by
          obtain ⟨j, hj⟩ := List.getElem?_of_mem hb
          exact hv j b hj⟩
      refine ⟨D, List.replicate xs.length true, rfl, .inl (.inl (by rw [← e1]; exact hx)), ?_⟩
      rw [show (List.replicate xs.length true).all id = true by simp]
      exact q _ sm
/-! values -/
def isValD (z : Str) : PyData → Bool
  | .str x => (zs x).all fun c => decide (c ∈ zs z)
  | _ => false
def small : PyData → Prop
  | .str x => x.length ≤ 100000
  | _ => True
def sp_is_value (K : PySem.W.Frag) : Sp := fun vs H Q _ => ∃ (z : Str) (v : V) (d : PyData), vs = [.str z, v] ∧ Dp K H v d ∧ small d ∧ ∀ H', Same H H' → Q (.bl (isValD z d)) H'
theorem ok_is_value (T : Txt K mg A) : FnOk P w K mg base CX0 1 A.a_is_value A.d_is_value ["letters", "thing"] (sp_is_value K) := by
  refine T.f_is_value.F.ok sc_is_value (fun vs H Q E h => ?_) (fun cdv Ar outer s H vs Q E hr h => ?_)
  · obtain ⟨z, v, d, rfl, _⟩ := h
    rfl
  · obtain ⟨z, v, d, rfl, hd, hsm, q⟩ := h
    refine ⟨_, (pss_one (ps_ret (pe_and (pe_callB call_isi (by rfl) T.n_isinstance (by decide +kernel) (pa_cons (pv 1) (pa_cons (pe_bltn (v := .ty "str") (by rfl) T.n_str (by decide +kernel) rfl) pa_nil))) (pe_one (pe_callB (cr_all rfl) (by rfl) T.n_all (by decide +kernel) (pa_cons (pe_lc (own := [("sign", 2)]) (g := (gName 2)) (tt := tYes) (by rfl) sc_is_value.nd (pi_str (pv 1)) (blkOk_by (own := [("sign", 2)]) (N := ["letters", "thing", "sign"]) (sc := defScope s_is_value) (by decide +kernel)) (fun _ _ _ _ _ => (pg_name (i := 2) sc_is_value.nd rfl (Or.inl rfl))) (fun _ _ _ _ _ => pts_nil) (fun _ _ _ _ _ => by exact (pe_cmpR op_in_sign (pv 2) (pv 0) rfl))) pa_nil)))))), ?_⟩
    obtain ⟨t, h1, h2⟩ := Dp.isB hd (c := "str") (by decide)
    refine ⟨_, rfl, _, _, t, _, _, rfl, .ty _, h1, h2, _, rfl, ?_⟩
    cases hd with
    | str x =>
      refine iteT ⟨_, rfl, x, rfl, fun D hD => ?_⟩
      have hx : x.length ≤ 100000 := hsm
      refine lc_rel walk_str (fun j v _ => ∃ c, (zs x)[j]? = some c ∧ v = .bl (decide (c ∈ zs z))) (fun _ _ _ _ _ h => h) hD (by show x.length < _; exact Nat.lt_of_le_of_lt hx (by decide)) (fun _ _ => trivial) ?_ ?_
      · rintro i y H1 H2 hi sm ⟨o, hd⟩ ⟨rfl, c, hc, rfl⟩ kk
        refine ⟨rfl, ?_⟩
        unfold tYes
        refine iteT ⟨_, rfl, _, rfl, c, _, rfl, rfl, kk _ _ (Same.refl _) ⟨c, ?_, rfl⟩⟩
        have := hc
        simpa [zs] using this
      · intro H1 xs sm hx1 hn hv
        have e1 : xs = ((zs x).map fun c => decide (c ∈ zs z)).map V.bl := by
          refine List.ext_getElem? fun j => ?_
          rw [List.map_map, List.getElem?_map]
          cases e : xs[j]? with
          | none =>
            have q1 : xs.length ≤ j := List.getElem?_eq_none_iff.mp e
            have q2 : (zs x).length ≤ j := by rw [zs_length]; have : xs.length = x.length := hn; omega
            rw [List.getElem?_eq_none q2]
            rfl
          | some v =>
            obtain ⟨c, h1, h2⟩ := hv j v e
            rw [h1, h2]
            rfl
        refine ⟨D, _, rfl, .inl (.inl (by rw [hx1, e1])), ?_⟩
        have e2 : ((zs x).map fun c => decide (c ∈ zs z)).all id = isValD z (.str x) := by
          rw [List.all_map]
          rfl
        rw [e2]
        exact q _ sm
    | non => exact iteF (q _ (Same.refl _))
    | bl b => exact iteF (q _ (Same.refl _))
    | int i => exact iteF (q _ (Same.refl _))
    | lst hs ha => exact iteF (q _ (Same.refl _))
    | tup hs ha => exact iteF (q _ (Same.refl _))
def sp_check_letters : Sp := fun vs H Q _ => ∃ (z : Str), vs = [.str z] ∧ z ∈ L8 ∧ ∀ H', Same H H' → Q .non H'
theorem ok_check_letters (T : Txt K mg A) : FnOk P w K mg base CX0 2 A.a_check_letters A.d_check_letters ["letters"] sp_check_letters := by
  refine T.f_check_letters.F.ok sc_check_letters (fun vs H Q E h => ?_) (fun cdv Ar outer s H vs Q E hr h => ?_)
  · obtain ⟨z, rfl, _⟩ := h
    rfl
  · obtain ⟨z, rfl, hz, q⟩ := h
    refine ⟨_, (pss_one (ps_if (pt_not (pt_val (pe_call (ok_is_letters T) (hr.mono (by decide)) (by rfl) T.f_is_letters.g T.f_is_letters.F.kp T.f_is_letters.b .nil pass0 (pa_cons (pv 0) pa_nil)))) (pss_one (ps_never)) pss_nil)), ?_⟩
    exact ⟨_, rfl, z, rfl, hz, fun H1 s1 => ⟨_, rfl, iteF (q _ s1)⟩⟩
def sp_check_value : Sp := fun vs H Q _ => ∃ (z x : Str), vs = [.str z, .str x] ∧ x.length ≤ 100000 ∧ (∀ c ∈ zs x, c ∈ zs z) ∧ ∀ H', Same H H' → Q .non H'
theorem isVal_of {z x : Str} (h : ∀ c ∈ zs x, c ∈ zs z) : isValD z (.str x) = true := by
  show (zs x).all _ = true
  rw [List.all_eq_true]
  exact fun c hc => decide_eq_true (h c hc)
theorem ok_check_value (T : Txt K mg A) : FnOk P w K mg base CX0 2 A.a_check_value A.d_check_value ["letters", "value"] sp_check_value := by
  refine T.f_check_value.F.ok sc_check_value (fun vs H Q E h => ?_) (fun cdv Ar outer s H vs Q E hr h => ?_)
  · obtain ⟨z, x, rfl, _⟩ := h
    rfl
  · obtain ⟨z, x, rfl, hx, hv, q⟩ := h
    refine ⟨_, (pss_one (ps_if (pt_not (pt_val (pe_call (ok_is_value T) (hr.mono (by decide)) (by rfl) T.f_is_value.g T.f_is_value.F.kp T.f_is_value.b .nil pass0 (pa_cons (pv 0) (pa_cons (pv 1) pa_nil))))) (pss_one (ps_never)) pss_nil)), ?_⟩
    refine ⟨_, rfl, _, rfl, z, _, .str x, rfl, .str x, hx, fun H1 s1 => ⟨_, rfl, ?_⟩⟩
    rw [isVal_of hv]
    exact iteF (q _ s1)
/-! turns, rows -/
def inB (m : Int) : PyData → Bool
  | .int i => decide (0 ≤ i) && decide (i < m)
  | _ => false
def len1 : PyData → Bool
  | .str x => decide (x.length ≤ 1)
  | _ => false
def isTurnD (z : Str) (m : Int) : PyData → Bool
  | .tuple [s, o] => inB m s && (isValD z o && len1 o)
  | _ => false
def smallT : PyData → Prop
  | .tuple [_, o] => small o
  | _ => True
theorem inB_whole {m : Int} {d : PyData} (h : isWholeD d = false) : inB m d = false := by
  cases d <;> first | rfl | (exact absurd h (by decide)) | (simp [isWholeD, isB] at h)
def sp_is_turn (K : PySem.W.Frag) : Sp := fun vs H Q _ => ∃ (z : Str) (m : Int) (v : V) (d : PyData), vs = [.str z, .int m, v] ∧ Dp K H v d ∧ smallT d ∧ ∀ H', Same H H' → Q (.bl (isTurnD z m d)) H'
theorem ok_is_turn (T : Txt K mg A) : FnOk P w K mg base CX0 2 A.a_is_turn A.d_is_turn ["letters", "many", "turn"] (sp_is_turn K) := by
  refine T.f_is_turn.F.ok sc_is_turn (fun vs H Q E h => ?_) (fun cdv Ar outer s H vs Q E hr h => ?_)
  · obtain ⟨z, m, v, d, rfl, _⟩ := h
    rfl
  · obtain ⟨z, m, v, d, rfl, hd, hsm, q⟩ := h
    refine ⟨_, (pss_cons (ps_if (PW.pt (pw_or (pt_not (pt_val (pe_callB call_isi (by rfl) T.n_isinstance (by decide +kernel) (pa_cons (pv 2) (pa_cons (pe_bltn (v := .ty "tuple") (by rfl) T.n_tuple (by decide +kernel) rfl) pa_nil))))) (pw_or1 (pt_cmpR op_ne (pe_callB call_len_seq (by rfl) T.n_len (by decide +kernel) (pa_cons (pv 2) pa_nil)) pe_int (nomark _))))) (pss_one (ps_ret pe_bl)) pss_nil) (pss_cons (ps_asg (pv 2) (pg_tup (by rfl) (pgs_cons (pg_name (i := 3) sc_is_turn.nd rfl (Or.inl rfl)) (pgs_cons (pg_name (i := 4) sc_is_turn.nd rfl (Or.inl rfl)) pgs_nil)))) (pss_cons (ps_if (PW.pt (pw_or (pt_not (pt_val (pe_call (ok_is_whole T) (hr.mono (by decide)) (by rfl) T.f_is_whole.g T.f_is_whole.F.kp T.f_is_whole.b .nil pass0 (pa_cons (pv 3) pa_nil)))) (pw_or1 (pt_not (pt_chain op_le op_lt pe_int (pv 3) (pv 1)))))) (pss_one (ps_ret pe_bl)) pss_nil) (pss_one (ps_ret (pe_and (pe_call (ok_is_value T) (hr.mono (by decide)) (by rfl) T.f_is_value.g T.f_is_value.F.kp T.f_is_value.b .nil pass0 (pa_cons (pv 0) (pa_cons (pv 4) pa_nil))) (pe_one (pe_cmpR op_le (pe_callB call_len_str (by rfl) T.n_len (by decide +kernel) (pa_cons (pv 4) pa_nil)) pe_int (nomark _))))))))), ?_⟩
    obtain ⟨t, h1, h2⟩ := Dp.isB hd (c := "tuple") (by decide)
    refine ⟨_, rfl, _, _, t, _, _, rfl, .ty _, h1, h2, _, rfl, ?_⟩
    cases hd with
    | tup hs ha =>
      rename_i a xs ds
      refine iteF ⟨_, rfl, a, xs, rfl, .inr hs, rfl, _, rfl, ?_⟩
      have hl := DpAll.len ha
      match ds, xs, hl, ha, hsm with
      | [], [], _, _, _ => exact iteT (q _ (Same.refl _))
      | [_], [_], _, _, _ => exact iteT (q _ (Same.refl _))
      | _ :: _ :: _ :: _, x1 :: x2 :: x3 :: xr, _, _, _ =>
        have e : (!decide (V.int (((x1 :: x2 :: x3 :: xr).length : Nat) : Int) = V.int 2)) = true := by
          simp
          omega
        rw [e]
        exact iteT (q _ (Same.refl _))
      | [ds1, do1], [s, o], _, .cons h3 (.cons h4 .nil), hsm =>
        refine iteF ⟨_, rfl, a, _, rfl, hs, rfl, _, _, rfl, _, _, rfl, rfl, ?_⟩
        refine ⟨_, rfl, _, ds1, rfl, h3, _, rfl, ?_⟩
        show (if (!isWholeD ds1) = true then _ else _)
        have qf : ∀ H', Same H H' → inB m ds1 = false → Q (.bl false) H' := fun H' s' e => by
          have q1 := q H' s'
          rw [show isTurnD z m (.tuple [ds1, do1]) = false by simp [isTurnD, e]] at q1
          exact q1
        cases ew : isWholeD ds1 with
        | false => exact iteT (qf _ (Same.refl _) (inB_whole ew))
        | true =>
          refine iteF ?_
          cases h3 with
          | int i =>
            refine ⟨_, rfl, 0, i, rfl, rfl, _, rfl, ?_⟩
            by_cases h0 : 0 ≤ i
            · rw [if_pos (decide_eq_true h0)]
              refine ⟨_, rfl, i, m, rfl, rfl, _, rfl, ?_⟩
              by_cases hm : i < m
              · rw [show decide (i < m) = true from decide_eq_true hm]
                refine iteF ⟨_, rfl, _, rfl, z, _, do1, rfl, h4, hsm, fun H1 s1 => ⟨_, rfl, ?_⟩⟩
                have q1 : ∀ H', Same H H' → Q (.bl (isValD z do1 && len1 do1)) H' := fun H' s' => by
                  have q2 := q H' s'
                  rw [show isTurnD z m (.tuple [.int i, do1]) = (isValD z do1 && len1 do1) by simp [isTurnD, inB, h0, hm]] at q2
                  exact q2
                cases ev : isValD z do1 with
                | false =>
                  rw [ev] at q1
                  exact iteF (q1 _ s1)
                | true =>
                  refine iteT ?_
                  cases h4 with
                  | str x =>
                    have hx : x.length ≤ 100000 := hsm
                    refine ⟨_, rfl, x, rfl, Nat.le_trans hx (by decide), _, _, rfl, rfl, ?_⟩
                    have q3 := q1 _ s1
                    rw [ev] at q3
                    have e5 : decide (((x.length : Nat) : Int) ≤ 1) = len1 (.str x) := by
                      show _ = decide (x.length ≤ 1)
                      by_cases h : x.length ≤ 1
                      · rw [decide_eq_true h, decide_eq_true (by omega)]
                      · rw [decide_eq_false h, decide_eq_false (by omega)]
                    show Q (.bl (decide (((x.length : Nat) : Int) ≤ 1))) H1
                    rw [e5]
                    exact q3
                  | non => exact absurd ev (by simp [isValD])
                  | bl b => exact absurd ev (by simp [isValD])
                  | int j => exact absurd ev (by simp [isValD])
                  | lst hs ha => exact absurd ev (by simp [isValD])
                  | tup hs ha => exact absurd ev (by simp [isValD])
              · rw [show decide (i < m) = false from decide_eq_false hm]
                exact iteT (qf _ (Same.refl _) (by simp [inB, hm]))
            · rw [if_neg (by simp [h0])]
              exact ⟨_, rfl, iteT (qf _ (Same.refl _) (by simp [inB, h0]))⟩
          | non => exact absurd ew (by decide)
          | bl b => simp [isWholeD, FX.isB] at ew
          | str x => simp [isWholeD, FX.isB] at ew
          | lst hs ha => simp [isWholeD, FX.isB] at ew
          | tup hs ha => simp [isWholeD, FX.isB] at ew
    | non => exact iteT (q _ (Same.refl _))
    | bl b => exact iteT (q _ (Same.refl _))
    | int i => exact iteT (q _ (Same.refl _))
    | lst hs ha => exact iteT (q _ (Same.refl _))
    | str x => exact iteT (q _ (Same.refl _))
def isRowD (z : Str) (m : Int) : PyData → Bool
  | .tuple ts => decide (ts.length = z.length) && ts.all (isTurnD z m)
  | _ => false
def smallR : PyData → Prop
  | .tuple ts => ts.length ≤ 100000 ∧ ∀ t ∈ ts, smallT t
  | _ => True
def sp_is_row (K : PySem.W.Frag) : Sp := fun vs H Q _ => ∃ (z : Str) (m : Int) (v : V) (d : PyData), vs = [.str z, .int m, v] ∧ z.length ≤ 100 ∧ Dp K H v d ∧ smallR d ∧ ∀ H', Same H H' → Q (.bl (isRowD z m d)) H'
theorem ok_is_row (T : Txt K mg A) : FnOk P w K mg base CX0 3 A.a_is_row A.d_is_row ["letters", "many", "row"] (sp_is_row K) := by
  refine T.f_is_row.F.ok sc_is_row (fun vs H Q E h => ?_) (fun cdv Ar outer s H vs Q E hr h => ?_)
  · obtain ⟨z, m, v, d, rfl, _⟩ := h
    rfl
  · obtain ⟨z, m, v, d, rfl, hz, hd, hsm, q⟩ := h
    refine ⟨_, (pss_cons (ps_if (PW.pt (pw_or (pt_not (pt_val (pe_callB call_isi (by rfl) T.n_isinstance (by decide +kernel) (pa_cons (pv 2) (pa_cons (pe_bltn (v := .ty "tuple") (by rfl) T.n_tuple (by decide +kernel) rfl) pa_nil))))) (pw_or1 (pt_cmpR op_ne (pe_callB call_len_seq (by rfl) T.n_len (by decide +kernel) (pa_cons (pv 2) pa_nil)) (pe_callB call_len_str (by rfl) T.n_len (by decide +kernel) (pa_cons (pv 0) pa_nil)) (nomark _))))) (pss_one (ps_ret pe_bl)) pss_nil) (pss_one (ps_ret (pe_callB (cr_all rfl) (by rfl) T.n_all (by decide +kernel) (pa_cons (pe_lc (own := [("turn", 3)]) (g := (gName 3)) (tt := tYes) (by rfl) sc_is_row.nd (pi_tup (pv 2)) (blkOk_by (own := [("turn", 3)]) (N := ["letters", "many", "row", "turn"]) (sc := defScope s_is_row) (by decide +kernel)) (fun _ _ _ _ _ => (pg_name (i := 3) sc_is_row.nd rfl (Or.inl rfl))) (fun _ _ _ _ _ => pts_nil) (fun _ _ _ _ _ => by exact (pe_call (ok_is_turn T) (hr.mono (by decide)) (by rfl) T.f_is_turn.g T.f_is_turn.F.kp T.f_is_turn.b .nil pass0 (pa_cons (pv 0) (pa_cons (pv 1) (pa_cons (pv 3) pa_nil)))))) pa_nil))))), ?_⟩
    obtain ⟨t, h1, h2⟩ := Dp.isB hd (c := "tuple") (by decide)
    refine ⟨_, rfl, _, _, t, _, _, rfl, .ty _, h1, h2, _, rfl, ?_⟩
    cases hd with
    | tup hs ha =>
      rename_i a xs ds
      have hl := DpAll.len ha
      obtain ⟨hb, hsm⟩ : ds.length ≤ 100000 ∧ ∀ t ∈ ds, smallT t := hsm
      refine iteF ⟨_, rfl, a, xs, rfl, .inr hs, _, rfl, z, rfl, Nat.le_trans hz (by decide), rfl, _, rfl, ?_⟩
      by_cases hn : ds.length = z.length
      · rw [show (!decide (V.int (xs.length : Int) = V.int (z.length : Int))) = false by rw [hl, hn]; simp]
        refine iteF ⟨_, rfl, a, rfl, ⟨xs, hs⟩, fun D hD => ?_⟩
        refine lc_rel (walk_tup (xs := xs)) (fun j v _ => ∃ d, ds[j]? = some d ∧ v = .bl (isTurnD z m d)) (fun _ _ _ _ _ h => h) hD (Nat.lt_of_le_of_lt (Nat.le_of_eq hl) (Nat.lt_of_le_of_lt hb (by decide))) (fun H' s' => SqT.same s' hs) ?_ ?_
        · rintro i y H1 H2 hi sm ⟨o, hd⟩ ⟨rfl, hy⟩ kk
          obtain ⟨d, hd1, hd2⟩ := DpAll.get' ha hy
          refine ⟨rfl, ?_⟩
          unfold tYes
          refine iteT ⟨_, rfl, _, rfl, _, rfl, z, m, y, d, rfl, Dp.same sm hd2, hsm d (List.mem_of_getElem? hd1), fun H3 s3 => kk _ _ s3 ⟨d, hd1, rfl⟩⟩
        · intro H1 ys sm hx1 hn1 hv
          have e1 : ys = (ds.map (isTurnD z m)).map V.bl := by
            refine List.ext_getElem? fun j => ?_
            rw [List.map_map, List.getElem?_map]
            cases e : ys[j]? with
            | none =>
              have q1 : ys.length ≤ j := List.getElem?_eq_none_iff.mp e
              rw [List.getElem?_eq_none (by omega)]
              rfl
            | some v =>
              obtain ⟨d, h1, h2⟩ := hv j v e
              rw [h1, h2]
              rfl
          refine ⟨D, _, rfl, .inl (.inl (by rw [hx1, e1])), ?_⟩
          have e2 : (ds.map (isTurnD z m)).all id = isRowD z m (.tuple ds) := by
            show _ = (decide (ds.length = z.length) && ds.all (isTurnD z m))
            rw [List.all_map, decide_eq_true hn]
            rfl
          rw [e2]
          exact q _ sm
      · rw [show (!decide (V.int (xs.length : Int) = V.int (z.length : Int))) = true by rw [hl]; simp; omega]
        refine iteT ?_
        have q1 := q _ (Same.refl _)
        rw [show isRowD z m (.tuple ds) = false by simp [isRowD, hn]] at q1
        exact q1
    | non => exact iteT (q _ (Same.refl _))
    | bl b => exact iteT (q _ (Same.refl _))
    | int i => exact iteT (q _ (Same.refl _))
    | lst hs ha => exact iteT (q _ (Same.refl _))
    | str x => exact iteT (q _ (Same.refl _))
/-- rows that are those of a machine: valid ones pass -/
def sp_check_rows (K : PySem.W.Frag) : Sp := fun vs H Q _ => ∃ (z : Str) (v : V) (ds : List PyData), vs = [.str z, v] ∧ z.length ≤ 100 ∧ Dp K H v (.tuple ds) ∧ 1 ≤ ds.length ∧ ds.length ≤ 6 ∧ (∀ d ∈ ds, smallR d ∧ isRowD z ds.length d = true) ∧ ∀ H', Same H H' → Q .non H'
theorem ok_check_rows (T : Txt K mg A) : FnOk P w K mg base CX0 4 A.a_check_rows A.d_check_rows ["letters", "rows"] (sp_check_rows K) := by
  refine T.f_check_rows.F.ok sc_check_rows (fun vs H Q E h => ?_) (fun cdv Ar outer s H vs Q E hr h => ?_)
  · obtain ⟨z, v, ds, rfl, _⟩ := h
    rfl
  · obtain ⟨z, v, ds, rfl, hz, hd, h1, h6, hr', q⟩ := h
    refine ⟨_, (pss_cons (ps_if (PW.pt (pw_or (pt_not (pt_val (pe_callB call_isi (by rfl) T.n_isinstance (by decide +kernel) (pa_cons (pv 1) (pa_cons (pe_bltn (v := .ty "tuple") (by rfl) T.n_tuple (by decide +kernel) rfl) pa_nil))))) (pw_or1 (pt_not (pt_chain op_le op_le pe_int (pe_callB call_len_seq (by rfl) T.n_len (by decide +kernel) (pa_cons (pv 1) pa_nil)) (pe_glob (v := v_MOST_STATES) rfl T.c_MOST_STATES ⟨_, rfl⟩)))))) (pss_one (ps_never)) pss_nil) (pss_one (ps_for PassesOwn.never rfl (pi_enumT (by rfl) T.n_enumerate (pa_cons (pv 1) pa_nil)) (pg_tup (by rfl) (pgs_cons (pg_name (i := 2) sc_check_rows.nd rfl (Or.inl rfl)) (pgs_cons (pg_name (i := 3) sc_check_rows.nd rfl (Or.inl rfl)) pgs_nil))) (pss_one (ps_if (pt_not (pt_val (pe_call (ok_is_row T) (hr.mono (by decide)) (by rfl) T.f_is_row.g T.f_is_row.F.kp T.f_is_row.b .nil pass0 (pa_cons (pv 0) (pa_cons (pe_callB call_len_seq (by rfl) T.n_len (by decide +kernel) (pa_cons (pv 1) pa_nil)) (pa_cons (pv 3) pa_nil)))))) (pss_one (ps_never)) pss_nil))))), ?_⟩
    obtain ⟨t, g1, g2⟩ := Dp.isB hd (c := "tuple") (by decide)
    obtain ⟨a, xs, rfl, hs, ha⟩ := Dp.tupOf hd
    have hl := DpAll.len ha
    refine ⟨_, rfl, _, _, t, _, _, rfl, .ty _, g1, g2, _, rfl, iteF ?_⟩
    refine ⟨_, rfl, a, xs, rfl, .inr hs, _, _, rfl, rfl, _, rfl, ?_⟩
    rw [if_pos (decide_eq_true (by omega))]
    refine ⟨_, _, rfl, rfl, _, rfl, ?_⟩
    rw [show decide ((xs.length : Int) ≤ 6) = true from decide_eq_true (by omega)]
    refine iteF ?_
    refine ⟨_, rfl, a, xs, rfl, hs, ?_⟩
    refine for_it (walk_enumT (xs := xs)) (fun i σ H' => Same H H' ∧ ∃ o1 o2, σ = [some (.str z), some (.ref a), o1, o2]) ⟨Same.refl _, _, _, rfl⟩ (fun i σ H' _ h => SqT.same h.1 hs) ?_ ?_
    · rintro i x σ H1 H2 hi ⟨sm, o1, o2, rfl⟩ ⟨p, x1, x2, rfl, hp, rfl, hx1, hx2⟩
      refine ⟨p, _, rfl, .inl (.inl upd_same), rfl, x1, _, rfl, x2, _, rfl, rfl, ?_⟩
      have s2 : Same H (upd H1 p (.tup [x1, x2])) := Same.up sm hp
      obtain ⟨d, hd1, hd2⟩ := DpAll.get' ha hx2
      obtain ⟨k1, k2⟩ := hr' d (List.mem_of_getElem? hd1)
      refine ⟨_, rfl, _, rfl, a, xs, rfl, .inr (SqT.same s2 hs), _, rfl, z, _, x2, d, rfl, hz, Dp.same s2 hd2, k1, fun H3 s3 => ⟨_, rfl, ?_⟩⟩
      rw [hl, k2]
      exact iteF ⟨s2.trans s3, _, _, rfl⟩
    · rintro σ H1 ⟨sm, _⟩
      exact q _ sm
end
end K3
set_option Elab.async false
set_option linter.all false
set_option maxRecDepth 100000
set_option maxHeartbeats 4000000
namespace K3
open PySem PySem.Spec PyProof.Rows L2 FX
/-! machines as objects -/
def mfs (z : Str) (r : Addr) : List (Str × V) := [("_letters", .str z), ("_rows", .ref r)]
theorem mfs_put (z : Str) (r : Addr) : putF "_rows" (.ref r) (putF "_letters" (.str z) []) = mfs z r := rfl
theorem mfs_letters (z : Str) (r : Addr) : (mfs z r).lookup ("_letters" : Str) = some (.str z) := by
  show List.lookup _ [_, _] = _
  rw [List.lookup_cons_self]
theorem mfs_no (z : Str) (r : Addr) {m : Str} (h1 : (m == ("_letters" : Str)) = false) (h2 : (m == ("_rows" : Str)) = false) : (mfs z r).lookup m = none := by
  simp [mfs, List.lookup, h1, h2]
theorem mfs_rows (z : Str) (r : Addr) : (mfs z r).lookup ("_rows" : Str) = some (.ref r) := by
  have h : (("_rows" : Str) == ("_letters" : Str)) = false := by decide +kernel
  simp [mfs, List.lookup, h]
structure IsM (K : PySem.W.Frag) (C : Addr) (H : Hp) (p : Addr) (z : Str) (R : Rows) : Prop where
  at_ : ∃ dx r, H p = some (.ins C dx (mfs z r)) ∧ Dp K H (.ref r) (rowsD R)
  hz : z ∈ L8
  ok : MachOk (zs z) R
  six : R.length ≤ 6
theorem IsM.same {K : PySem.W.Frag} {C : Addr} {H H' : Hp} {p : Addr} {z : Str} {R : Rows} (m : IsM K C H p z R) (s : Same H H') : IsM K C H' p z R := by
  obtain ⟨⟨dx, r, h1, h2⟩, h3, h4, h5⟩ := m
  exact ⟨⟨dx, r, s _ _ h1, Dp.same s h2⟩, h3, h4, h5⟩
theorem l8_le {z : Str} (h : z ∈ L8) : z.length ≤ 100 := Nat.le_trans (l8_len z h).2 (by decide)
/-- rows of a machine pass -/
theorem turn_ok {z : Str} {m : Nat} {t : Nat × List Nat} (h1 : t.1 < m) (h2 : t.2.length ≤ 1) (h3 : ∀ c ∈ t.2, c ∈ zs z) : isTurnD z m (turnD t) = true ∧ smallT (turnD t) := by
  have e1 : (zs (S t.2)) = t.2 := by simp [zs, S]
  have e2 : (S t.2).length = t.2.length := by simp [S, Str.length]
  refine ⟨?_, ?_⟩
  · show (inB m (.int t.1) && (isValD z (.str (S t.2)) && len1 (.str (S t.2)))) = true
    have a1 : inB m (.int t.1) = true := by simp [inB]; omega
    have a2 : isValD z (.str (S t.2)) = true := isVal_of (by rw [e1]; exact h3)
    have a3 : len1 (.str (S t.2)) = true := by simp [len1, e2]; exact h2
    rw [a1, a2, a3]
    rfl
  · show (S t.2).length ≤ 100000
    omega
theorem row_ok {z : Str} {R : Rows} (M : MachOk (zs z) R) (hz : z ∈ L8) {row : List (Nat × List Nat)} (h : row ∈ R) : smallR (rowD row) ∧ isRowD z R.length (rowD row) = true := by
  have hl := M.rows row h
  rw [zs_length] at hl
  refine ⟨⟨?_, ?_⟩, ?_⟩
  · rw [List.length_map]
    have := l8_le hz
    omega
  · intro t ht
    obtain ⟨x, hx, rfl⟩ := List.mem_map.mp ht
    exact (turn_ok (z := z) (M.st row h x hx) (M.one row h x hx) (M.out row h x hx)).2
  · show (decide ((row.map turnD).length = z.length) && (row.map turnD).all (isTurnD z R.length)) = true
    rw [List.length_map, decide_eq_true hl, Bool.true_and, List.all_eq_true]
    intro t ht
    obtain ⟨x, hx, rfl⟩ := List.mem_map.mp ht
    exact (turn_ok (M.st row h x hx) (M.one row h x hx) (M.out row h x hx)).1
section
variable {P : Program} {w : World} {K : PySem.W.Frag} {mg : Str → Option Value} {base : Heap} {A : Ad}
def sp_init (K : PySem.W.Frag) (C : Addr) : Sp := fun vs H Q _ => ∃ (p dx r : Addr) (z : Str) (R : Rows), vs = [.ref p, .str z, .ref r] ∧ H p = some (.ins C dx []) ∧ z ∈ L8 ∧ MachOk (zs z) R ∧ R.length ≤ 6 ∧ Dp K (hid [p] H) (.ref r) (rowsD R) ∧
  ∀ H', Same (hid [p] H) (hid [p] H') → H' p = some (.ins C dx (mfs z r)) → Q .non H'
theorem ok_Machine_init (T : Txt K mg A) : FnOk P w K mg base CX0 5 A.a_Machine_init A.d_Machine_init ["self", "letters", "rows"] (sp_init K A.C) := by
  refine T.f_Machine_init.F.ok sc_Machine_init (fun vs H Q E h => ?_) (fun cdv Ar outer s H vs Q E hr h => ?_)
  · obtain ⟨p, dx, r, z, R, rfl, _⟩ := h
    rfl
  · obtain ⟨p, dx, r, z, R, rfl, hp, hz, M, h6, hd, q⟩ := h
    refine ⟨_, (pss_cons (ps_expr (pe_call (ok_check_letters T) (hr.mono (by decide)) (by rfl) T.f_check_letters.g T.f_check_letters.F.kp T.f_check_letters.b .nil pass0 (pa_cons (pv 1) pa_nil))) (pss_cons (ps_expr (pe_call (ok_check_rows T) (hr.mono (by decide)) (by rfl) T.f_check_rows.g T.f_check_rows.F.kp T.f_check_rows.b .nil pass0 (pa_cons (pv 1) (pa_cons (pv 2) pa_nil)))) (pss_cons (ps_fld (pv 0) (pv 1) rfl) (pss_one (ps_fld (pv 0) (pv 2) rfl))))), ?_⟩
    refine ⟨_, rfl, z, rfl, hz, fun H1 s1 => ?_⟩
    have hd1 : Dp K H (.ref r) (rowsD R) := Dp.same (hid_sub _ _) hd
    refine ⟨_, rfl, _, rfl, z, _, R.map rowD, rfl, l8_le hz, Dp.same s1 hd1, by rw [List.length_map]; exact M.pos, by rw [List.length_map]; exact h6, fun d hd => ?_, fun H2 s2 => ?_⟩
    · obtain ⟨row, hrow, rfl⟩ := List.mem_map.mp hd
      rw [List.length_map]
      exact row_ok M hz hrow
    · have hp2 := s2 _ _ (s1 _ _ hp)
      refine ⟨_, rfl, _, rfl, p, A.C, dx, _, rfl, hp2, T.cl, T.no_letters, (by show 0 < 1000; decide), ?_⟩
      refine ⟨_, rfl, _, rfl, p, A.C, dx, _, rfl, upd_same, T.cl, T.no_rows, (by show 1 < 1000; decide), ?_⟩
      refine q _ ?_ upd_same
      rw [hid_upd (by simp), hid_upd (by simp)]
      exact hid_same fun b o _ e => s2 b o (s1 b o e)
/-- Machine(z, r) -/
theorem mk_M {C : Addr} {H1 : Hp} {z : Str} {r : Addr} {R : Rows} {Q : VK} (hz : z ∈ L8) (M : MachOk (zs z) R) (h6 : R.length ≤ 6) (hd : Dp K H1 (.ref r) (rowsD R)) (hq : ∀ x H2, H1 x = none → Same H1 H2 → IsM K C H2 x z R → Q (.ref x) H2) :
    ∀ x dx, H1 x = none → H1 dx = none → dx ≠ x → sp_init K C (.ref x :: ([.str z, .ref r] ++ [])) (upd (upd H1 dx (.own x)) x (.ins C dx [])) (fun v H2 => v = .non ∧ Q (.ref x) H2) E0 := by
  intro x dx nx ndx ne
  have s1 : Same H1 (hid [x] (upd (upd H1 dx (.own x)) x (.ins C dx []))) := by
    rw [hid_upd (by simp)]
    intro b o e
    rw [hid_out (by simp; exact ne_of_none e nx), upd_ne (ne_of_none e ndx)]
    exact e
  refine ⟨x, dx, r, z, R, rfl, upd_same, hz, M, h6, Dp.same s1 hd, fun H2 s2 hx => ⟨rfl, hq x H2 nx (s1.trans (s2.trans (hid_sub _ _))) ⟨⟨dx, r, hx, Dp.same (s1.trans (s2.trans (hid_sub _ _))) hd⟩, hz, M, h6⟩⟩⟩
def sp_letters (K : PySem.W.Frag) (C : Addr) : Sp := fun vs H Q _ => ∃ (p : Addr) (z : Str) (R : Rows), vs = [.ref p] ∧ IsM K C H p z R ∧ Q (.str z) H
theorem ok_Machine_letters (T : Txt K mg A) : FnOk P w K mg base CX0 1 A.a_Machine_letters A.d_Machine_letters ["self"] (sp_letters K A.C) := by
  refine T.f_Machine_letters.F.ok sc_Machine_letters (fun vs H Q E h => ?_) (fun cdv Ar outer s H vs Q E hr h => ?_)
  · obtain ⟨p, z, R, rfl, _⟩ := h
    rfl
  · obtain ⟨p, z, R, rfl, ⟨⟨dx, r, hp, hd⟩, _, _, _⟩, q⟩ := h
    refine ⟨_, (pss_one (ps_ret (pe_fld (pv 0) rfl))), ?_⟩
    exact ⟨_, rfl, p, A.C, dx, _, _, rfl, hp, T.cl, T.no_letters, mfs_letters _ _, q⟩
def sp_rows (K : PySem.W.Frag) (C : Addr) : Sp := fun vs H Q _ => ∃ (p : Addr) (z : Str) (R : Rows), vs = [.ref p] ∧ IsM K C H p z R ∧ ∀ v, Dp K H v (rowsD R) → Q v H
theorem ok_Machine_rows (T : Txt K mg A) : FnOk P w K mg base CX0 1 A.a_Machine_rows A.d_Machine_rows ["self"] (sp_rows K A.C) := by
  refine T.f_Machine_rows.F.ok sc_Machine_rows (fun vs H Q E h => ?_) (fun cdv Ar outer s H vs Q E hr h => ?_)
  · obtain ⟨p, z, R, rfl, _⟩ := h
    rfl
  · obtain ⟨p, z, R, rfl, ⟨⟨dx, r, hp, hd⟩, _, _, _⟩, q⟩ := h
    refine ⟨_, (pss_one (ps_ret (pe_fld (pv 0) rfl))), ?_⟩
    exact ⟨_, rfl, p, A.C, dx, _, _, rfl, hp, T.cl, T.no_rows, mfs_rows _ _, q _ hd⟩
def sp_turn (K : PySem.W.Frag) (C : Addr) : Sp := fun vs H Q _ => ∃ (p : Addr) (z : Str) (R : Rows) (st c : Nat), vs = [.ref p, .int st, .str (S [c])] ∧ IsM K C H p z R ∧ st < R.length ∧ c ∈ zs z ∧ ∀ v, Dp K H v (turnD (stp (zs z) R st c)) → Q v H
theorem ok_Machine_turn (T : Txt K mg A) : FnOk P w K mg base CX0 1 A.a_Machine_turn A.d_Machine_turn ["self", "state", "letter"] (sp_turn K A.C) := by
  refine T.f_Machine_turn.F.ok sc_Machine_turn (fun vs H Q E h => ?_) (fun cdv Ar outer s H vs Q E hr h => ?_)
  · obtain ⟨p, z, R, st, c, rfl, _⟩ := h
    rfl
  · obtain ⟨p, z, R, st, c, rfl, ⟨⟨dx, r, hp, hd⟩, hz, M, h6⟩, hst, hc, q⟩ := h
    refine ⟨_, (pss_one (ps_ret (pe_ix ix_tup (pe_ix ix_tup (pe_fld (pv 0) rfl) (pv 1) (fun _ _ => rfl)) (pe_m1 PySem.F.slot_str_index PySem.F.type_str_index mt_sindex (pe_fld (pv 0) rfl) (pv 2)) (fun _ _ => rfl)))), ?_⟩
    obtain ⟨row, g1, g2, g3, g4⟩ := stp_mem M hst hc
    obtain ⟨a, xs, e1, hs, ha⟩ := Dp.tupOf hd
    cases e1
    obtain ⟨v1, k1, k2⟩ := DpAll.get ha (i := st) (d := rowD row) (by rw [List.getElem?_map, g1]; rfl)
    obtain ⟨b, ys, e2, hs2, ha2⟩ := Dp.tupOf k2
    obtain ⟨v2, k3, k4⟩ := DpAll.get ha2 (i := ix (zs z) c) (d := turnD (stp (zs z) R st c)) (by rw [List.getElem?_map, g2]; rfl)
    refine ⟨_, rfl, p, A.C, dx, _, _, rfl, hp, T.cl, T.no_rows, mfs_rows _ _, _, rfl, r, xs, st, v1, rfl, rfl, hs, atI_nat k1, ?_⟩
    refine ⟨_, rfl, p, A.C, dx, _, _, rfl, hp, T.cl, T.no_letters, mfs_letters _ _, ⟨_, rfl⟩, _, rfl, z, S [c], ix (zs z) c, [], rfl, rfl, l8_index z hz c hc, ?_⟩
    exact ⟨b, ys, ((ix (zs z) c : Nat) : Int), v2, e2, rfl, hs2, atI_nat k3, q v2 k4⟩
end
end K3
set_option Elab.async false
set_option linter.all false
set_option maxRecDepth 100000
set_option maxHeartbeats 4000000
namespace K3
open PySem PySem.Spec PyProof.Rows L2 FX
section
variable {P : Program} {w : World} {K : PySem.W.Frag} {mg : Str → Option Value} {base : Heap} {A : Ad}
def sp_after (K : PySem.W.Frag) (C : Addr) : Sp := fun vs H Q _ => ∃ (p : Addr) (x z : Str) (R : Rows), vs = [.ref p, .str x] ∧ IsM K C H p z R ∧ x.length ≤ 100000 ∧ (∀ c ∈ zs x, c ∈ zs z) ∧
  ∀ v H', Same H H' → Dp K H' v (.tuple [.int (runM (zs z) R 0 (zs x)).1, .str (S (runM (zs z) R 0 (zs x)).2)]) → Q v H'
theorem ok_Machine__after (T : Txt K mg A) : FnOk P w K mg base CX0 3 A.a_Machine__after A.d_Machine__after ["self", "value"] (sp_after K A.C) := by
  refine T.f_Machine__after.F.ok sc_Machine__after (fun vs H Q E h => ?_) (fun cdv Ar outer s H vs Q E hr h => ?_)
  · obtain ⟨p, x, z, R, rfl, _⟩ := h
    rfl
  · obtain ⟨p, x, z, R, rfl, hM, hx, hc, q⟩ := h
    refine ⟨_, (pss_cons (ps_expr (pe_call (ok_check_value T) (hr.mono (by decide)) (by rfl) T.f_check_value.g T.f_check_value.F.kp T.f_check_value.b .nil pass0 (pa_cons (pe_fld (pv 0) rfl) (pa_cons (pv 1) pa_nil)))) (pss_cons (ps_set (i := 2) sc_Machine__after.nd rfl (Or.inl rfl) pe_int) (pss_cons (ps_set (i := 3) sc_Machine__after.nd rfl (Or.inl rfl) (pe_lst pa_nil)) (pss_cons (ps_for PassesOwn.never rfl (pi_str (pv 1)) (pg_name (i := 4) sc_Machine__after.nd rfl (Or.inl rfl)) (pss_cons (ps_asg (pe_meth (pv 0) T.cl T.m_turn (ok_Machine_turn T) (hr.mono (by decide)) T.f_Machine_turn.b .nil pass0 (pa_cons (pv 2) (pa_cons (pv 4) pa_nil))) (pg_tup (by rfl) (pgs_cons (pg_name (i := 2) sc_Machine__after.nd rfl (Or.inl rfl)) (pgs_cons (pg_name (i := 5) sc_Machine__after.nd rfl (Or.inl rfl)) pgs_nil)))) (pss_one (ps_expr (pe_bm PySem.F.plainAttrs_list PySem.F.slot_list_append PySem.F.type_list_append mt_append (pv 3) (pa_cons (pv 5) pa_nil)))))) (pss_one (ps_ret (pe_tup (pa_cons (pv 2) (pa_cons (pe_join pe_str (pv 3)) pa_nil))))))))), ?_⟩
    obtain ⟨dx, r, hp, hd⟩ := hM.at_
    refine ⟨_, rfl, p, A.C, dx, _, _, rfl, hp, T.cl, T.no_letters, mfs_letters _ _, _, rfl, z, x, rfl, hx, hc, fun H1 s1 => ?_⟩
    refine ⟨Nat.zero_le _, fun l hl => ?_⟩
    have l0 : H l = none := s1.free hl
    refine ⟨_, rfl, x, rfl, ?_⟩
    refine for_it walk_str (fun i σ H' => Same H H' ∧ ∃ o1 o2, σ = [some (.ref p), some (.str x), some (.int (runM (zs z) R 0 ((zs x).take i)).1), some (.ref l), o1, o2] ∧ H' l = some (.lst ((outL (zs z) R 0 ((zs x).take i)).map fun o => .str (S o))))
      ⟨Same.up s1 hl, _, _, rfl, upd_same⟩ (fun _ _ _ _ _ => trivial) ?_ ?_
    · rintro i y σ H2 H3 hi ⟨sm, o1, o2, rfl, hL⟩ ⟨rfl, c, hci, rfl⟩
      have hcx := str_at hci
      have ht := take_succ' hcx
      have hpre : ∀ d ∈ (zs x).take i, d ∈ zs z := fun d hd => hc d (List.mem_of_mem_take hd)
      have hM2 := hM.same sm
      obtain ⟨dx2, r2, hp2, hd2⟩ := hM2.at_
      have hst := runM_lt hM.ok ((zs x).take i) 0 hM.ok.pos hpre
      have hcz : c ∈ zs z := hc c (List.mem_of_getElem? hcx)
      refine ⟨_, rfl, p, dx2, _, rfl, hp2, mfs_no _ _ (by decide +kernel) (by decide +kernel), _, rfl, _, rfl, p, z, R, _, c, rfl, hM2, hst, hcz, fun v hv => ?_⟩
      obtain ⟨t, xs, rfl, hts, hta⟩ := Dp.tupOf hv
      cases hta with
      | cons g1 g2 =>
        cases g2 with
        | cons g2 g3 =>
          cases g3
          obtain rfl := Dp.intOf g1
          obtain rfl := Dp.strOf g2
          refine ⟨t, _, rfl, hts, rfl, _, _, rfl, _, _, rfl, rfl, ?_⟩
          refine ⟨_, rfl, .inl ⟨rfl, _, SqL.of hL⟩, _, rfl, l, _, _, rfl, rfl, hL, ?_, ?_⟩
          · rw [List.length_map, outL_len, List.length_take]
            exact Nat.lt_of_le_of_lt (Nat.min_le_left _ _) (Nat.lt_of_lt_of_le hi (Nat.le_trans hx (by decide)))
          · refine ⟨Same.set sm l0, some (.str ⟨#[c]⟩), some (.str (S (stp (zs z) R (runM (zs z) R 0 ((zs x).take i)).1 c).2)), ?_, ?_⟩
            · rw [ht, runM_app]
              rfl
            · rw [upd_same, ht, outL_app, List.map_append]
              rfl
    · rintro σ H2 ⟨sm, o1, o2, rfl, hL⟩
      have e0 : (zs x).take x.cps.size = zs x := List.take_of_length_le (by simp [zs])
      rw [e0] at hL ⊢
      refine ⟨_, rfl, ⟨_, rfl⟩, _, rfl, S [], l, (outL (zs z) R 0 (zs x)).map S, rfl, rfl, .inl (.inl (.inl (by rw [hL, List.map_map]; rfl))), ?_, ?_⟩
      · have e5 : (((outL (zs z) R 0 (zs x)).map S).map (·.length)).sum = (outL (zs z) R 0 (zs x)).flatten.length := by
          rw [List.length_flatten, List.map_map]
          rfl
        have e6 := runM_len hM.ok (zs x) 0 hM.ok.pos hc
        rw [e5, outL_flat]
        rw [zs_length] at e6
        show _ + _ * 0 ≤ _
        omega
      · rw [join_flat, outL_flat]
        refine ⟨by show 2 ≤ sizeLine; decide, fun t ht => ?_⟩
        exact q _ _ (Same.up sm ht) (Dp.tupNew upd_same (.cons (.int _) (.cons (.str _) .nil)))
def sp_made (K : PySem.W.Frag) (C : Addr) : Sp := fun vs H Q _ => ∃ (p : Addr) (x z : Str) (R : Rows), vs = [.ref p, .str x] ∧ IsM K C H p z R ∧ x.length ≤ 100000 ∧ (∀ c ∈ zs x, c ∈ zs z) ∧
  ∀ H', Same H H' → Q (.str (S (madeM (zs z) R (zs x)))) H'
theorem ok_Machine_made (T : Txt K mg A) : FnOk P w K mg base CX0 4 A.a_Machine_made A.d_Machine_made ["self", "value"] (sp_made K A.C) := by
  refine T.f_Machine_made.F.ok sc_Machine_made (fun vs H Q E h => ?_) (fun cdv Ar outer s H vs Q E hr h => ?_)
  · obtain ⟨p, x, z, R, rfl, _⟩ := h
    rfl
  · obtain ⟨p, x, z, R, rfl, hM, hx, hc, q⟩ := h
    refine ⟨_, (pss_one (ps_ret (pe_ix ix_tup (pe_meth (pv 0) T.cl T.m__after (ok_Machine__after T) (hr.mono (by decide)) T.f_Machine__after.b .nil pass0 (pa_cons (pv 1) pa_nil)) pe_int (fun _ _ => rfl)))), ?_⟩
    obtain ⟨dx, r, hp, hd⟩ := hM.at_
    refine ⟨_, rfl, p, dx, _, rfl, hp, mfs_no _ _ (by decide +kernel) (by decide +kernel), _, rfl, p, x, z, R, rfl, hM, hx, hc, fun v H1 s1 hv => ?_⟩
    obtain ⟨t, xs, rfl, hts, hta⟩ := Dp.tupOf hv
    cases hta with
    | cons g1 g2 =>
      cases g2 with
      | cons g2 g3 =>
        cases g3
        obtain rfl := Dp.intOf g1
        obtain rfl := Dp.strOf g2
        exact ⟨t, _, 1, _, rfl, rfl, hts, rfl, q _ s1⟩
def sp_check_machine (K : PySem.W.Frag) (C : Addr) : Sp := fun vs H Q _ => ∃ (p : Addr) (z : Str) (R : Rows), vs = [.ref p] ∧ IsM K C H p z R ∧ Q .non H
theorem isM_ty (T : Txt K mg A) {H : Hp} {p : Addr} {z : Str} {R : Rows} (h : IsM K A.C H p z R) : TyX K H (.ref p) (.ref A.C) := by
  obtain ⟨dx, r, hp, _⟩ := h.at_
  exact .base (.ins hp T.cl T.iA T.iN T.iT T.iM)
theorem kit_self {t : Value} : PySem.W.kitOne K t t = some true := by
  unfold PySem.W.kitOne
  rw [if_pos (by simp)]
theorem ok_check_machine (T : Txt K mg A) : FnOk P w K mg base CX0 1 A.a_check_machine A.d_check_machine ["machine"] (sp_check_machine K A.C) := by
  refine T.f_check_machine.F.ok sc_check_machine (fun vs H Q E h => ?_) (fun cdv Ar outer s H vs Q E hr h => ?_)
  · obtain ⟨p, z, R, rfl, _⟩ := h
    rfl
  · obtain ⟨p, z, R, rfl, hM, q⟩ := h
    refine ⟨_, (pss_one (ps_if (pt_not (pt_val (pe_callB call_isi (by rfl) T.n_isinstance (by decide +kernel) (pa_cons (pv 0) (pa_cons (pe_glob (v := .ref A.C) rfl T.g_Machine rfl) pa_nil))))) (pss_one (ps_never)) pss_nil)), ?_⟩
    exact ⟨_, rfl, _, _, _, _, true, rfl, .own _, isM_ty T hM, kit_self, _, rfl, iteF q⟩
end
end K3
set_option Elab.async false
set_option linter.all false
set_option maxRecDepth 100000
set_option maxHeartbeats 4000000
namespace K3
open PySem PySem.Spec PyProof.Rows L2 FX
section
variable {P : Program} {w : World} {K : PySem.W.Frag} {mg : Str → Option Value} {base : Heap} {A : Ad}
theorem l8_line {z : Str} (h : z ∈ L8) : z.length ≤ sizeLine := Nat.le_trans (l8_le h) (by decide)
theorem l8_lt {z : Str} (h : z ∈ L8) : z.cps.size < sizeLine := Nat.lt_of_le_of_lt (l8_le h) (by decide)
/-! what the law draws -/
theorem pos1000003 : (0 : Int) < 1000003 := by decide
theorem pos999983 : (0 : Int) < 999983 := by decide
theorem pos65521 : (0 : Int) < 65521 := by decide
theorem pos2147483647 : (0 : Int) < 2147483647 := by decide
theorem pos2147483629 : (0 : Int) < 2147483629 := by decide
theorem pos8 : (0 : Int) < 8 := by decide
theorem pos5 : (0 : Int) < 5 := by decide
theorem pos9 : (0 : Int) < 9 := by decide
theorem pos3 : (0 : Int) < 3 := by decide
theorem pos500 : (0 : Int) < 500 := by decide
theorem pos81 : (0 : Int) < 81 := by decide
theorem pos16 : (0 : Int) < 16 := by decide
theorem pos2 : (0 : Int) < 2 := by decide
theorem cut_te {te : TE} {σ : L2.St} {H : Hp} {Q : VK} (G : V → Hp → Prop) (h : ∀ x H1, G x H1 → Q x H1) (k : ∀ Q' : VK, (∀ x H1, G x H1 → Q' x H1) → te σ H Q') : te σ H Q := k Q h
def Scr (K : PySem.W.Frag) (H : Hp) (a : Addr) (ns : List Int) : Prop := SqL K H a (ns.map V.int) ∧ ns.length ≤ 63
theorem Scr.same {H H' : Hp} {a : Addr} {ns : List Int} (h : Scr K H a ns) (s : Same H H') : Scr K H' a ns := ⟨s.seq h.1, h.2⟩
theorem cutAll (xs : List V) (h : xs.length ≤ 63) : cutV xs none (some 63) = xs := by
  unfold cutV
  rw [HT.sIx_none, show HT.sIx xs.length xs.length (some 63) = min 63 xs.length from HT.sIx_nat xs.length xs.length 63, Nat.min_eq_right h, List.drop_zero, Nat.sub_zero]
  exact List.take_length
theorem ints_eqv (ns : List Int) : PyData.eqv (.list (ns.map PyData.int)) (.list []) = ns.isEmpty := by
  cases ns <;> simp [PyData.eqv, PyData.eqvAll]
theorem ints_shaped (ns : List Int) : SeqAt.shaped (.list (ns.map PyData.int)) = true := by
  refine shaped_of ?_ ?_
  · simp only [PyData.canLay0]
    exact layAll_of fun d hd => by obtain ⟨p, _, rfl⟩ := List.mem_map.mp hd; simp [PyData.canLay0]
  · have h1 := depthAll_of (ds := ns.map PyData.int) (n := 0) fun d hd => by obtain ⟨p, _, rfl⟩ := List.mem_map.mp hd; simp [PyData.depth]
    simp only [PyData.depth]
    omega
def sp_number (K : PySem.W.Frag) : Sp := fun vs H Q _ => ∃ (a : Addr) (ns : List Int) (k : Int), vs = [.ref a, .int k] ∧ Scr K H a ns ∧ 0 ≤ k ∧ k ≤ 10000 ∧ ∀ r H', Same H H' → 0 ≤ r → r < 4611686018427387904 → Q (.int r) H'
theorem ok_law_number (T : Txt K mg A) : FnOk P w K mg base CX0 1 A.a_law_number A.d_law_number ["script", "index"] (sp_number K) := by
  refine T.f_law_number.F.ok sc_law_number (fun vs H Q E h => ?_) (fun cdv Ar outer s H vs Q E hr h => ?_)
  · obtain ⟨a, ns, k, rfl, _⟩ := h
    rfl
  · obtain ⟨a, ns, k, rfl, ⟨hS, hn⟩, k0, k1, q⟩ := h
    refine ⟨_, (pss_cons (ps_set (i := 2) sc_law_number.nd rfl (Or.inl rfl) (pe_ifExp (pt_cmpR (op_neD hr.units) (pv 0) (pe_lst pa_nil) (nomark _)) (pe_slice sl_list (pv 0) po_none (po_some pe_int)) (pe_lst (pa_cons pe_int pa_nil)))) (pss_cons (ps_set (i := 3) sc_law_number.nd rfl (Or.inl rfl) (pe_op op_add (pe_ix ix_list (pv 2) (pe_op op_mod (pe_callTy call_int1 (by rfl) T.n_int (by decide +kernel) (pa_cons (pv 1) pa_nil)) (pe_callB call_len_seq (by rfl) T.n_len (by decide +kernel) (pa_cons (pv 2) pa_nil))) (fun _ _ => rfl)) (pe_op op_mul pe_int (pe_op op_fdiv (pv 1) (pe_callB call_len_seq (by rfl) T.n_len (by decide +kernel) (pa_cons (pv 2) pa_nil)))))) (pss_cons (ps_par (i := 4) (j := 5) (by rfl) sc_law_number.nd rfl rfl (by decide) rfl rfl (pa_cons (pe_op op_mod (pe_callTy call_int1 (by rfl) T.n_int (by decide +kernel) (pa_cons (pv 3) pa_nil)) pe_int) (pa_cons (pe_op op_mod (pe_callTy call_int1 (by rfl) T.n_int (by decide +kernel) (pa_cons (pe_op op_fdiv (pv 3) pe_int) pa_nil)) pe_int) pa_nil)) (by rfl)) (pss_cons (ps_set (i := 6) sc_law_number.nd rfl (Or.inl rfl) (pe_op op_mod (pe_callTy call_int1 (by rfl) T.n_int (by decide +kernel) (pa_cons (pe_callB (cr_sum rfl) (by rfl) T.n_sum (by decide +kernel) (pa_cons (pv 2) pa_nil)) pa_nil)) pe_int)) (pss_cons (ps_set (i := 7) sc_law_number.nd rfl (Or.inl rfl) (pe_op op_mod (pe_callTy call_int1 (by rfl) T.n_int (by decide +kernel) (pa_cons (pe_op op_add (pe_op op_add (pe_op op_mul (pe_op op_add (pv 4) (pe_op op_mul pe_int (pv 1))) pe_int) (pe_op op_mul pe_int (pv 5))) (pv 6)) pa_nil)) pe_int)) (pss_one (ps_ret (pe_op op_add (pe_op op_mul (pe_op op_mod (pe_callTy call_int1 (by rfl) T.n_int (by decide +kernel) (pa_cons (pe_op op_mul (pv 7) (pe_op op_add (pe_op op_add (pv 7) (pe_op op_mul pe_int (pv 1))) pe_int)) pa_nil)) pe_int) pe_int) (pv 5))))))))), ?_⟩
    unfold tSeq
    unfold tAsg
    refine cut_te (fun x H1 => ∃ (l : Addr) (cs : List Int), x = .ref l ∧ Same H H1 ∧ SqL K H1 l (cs.map V.int) ∧ 1 ≤ cs.length ∧ cs.length ≤ 63) ?_ ?_
    · rintro _ H1 ⟨l, cs, rfl, s1, hl, c1, c63⟩
      have lc : (cs.map V.int).length = cs.length := by simp
      have hm0 : 0 ≤ k % (cs.length : Int) := Int.emod_nonneg _ (by omega)
      have hm1 : k % (cs.length : Int) < cs.length := Int.emod_lt_of_pos _ (by omega)
      obtain ⟨j, hj⟩ : ∃ j : Nat, k % (cs.length : Int) = (j : Int) := ⟨(k % (cs.length : Int)).toNat, by omega⟩
      have hjl : j < cs.length := by omega
      have hat : atI (cs.map V.int) (k % ((cs.map V.int).length : Int)) = some (.int cs[j]) := by
        rw [lc, hj]
        refine atI_nat ?_
        rw [List.getElem?_map, List.getElem?_eq_getElem hjl]
        rfl
      have hpos : (0 : Int) < ((cs.map V.int).length : Int) := by rw [lc]; omega
      have hbig : ((cs.map V.int).length : Int) < 1073741824 := by rw [lc]; omega
      refine ⟨_, rfl, _, rfl, .inl ⟨_, rfl, _, rfl, l, _, rfl, .inl hl, k, _, rfl, rfl, hpos, l, _, _, _, rfl, rfl, hl, hat, _, rfl, _, rfl, l, _, rfl, .inl hl, k, _, rfl, rfl, ⟨hpos, hbig⟩, 13, _, rfl, rfl, .inl ⟨by decide, by decide⟩, _, _, rfl, rfl, ?_⟩⟩
      generalize cs[j] + 13 * (k / ((cs.map V.int).length : Int)) = cell
      refine ⟨_, rfl, .inl ⟨_, rfl, _, _, rfl, rfl, pos1000003, _, rfl, _, _, rfl, rfl, ⟨by decide, by decide⟩, .inl ⟨_, rfl, _, _, rfl, rfl, pos999983, _, _, rfl, ?_⟩⟩⟩
      have a1 : 0 ≤ cell % 1000003 := Int.emod_nonneg _ (by decide)
      have a2 : cell % 1000003 < 1000003 := Int.emod_lt_of_pos _ (by decide)
      have b1 : 0 ≤ cell / 1000003 % 999983 := Int.emod_nonneg _ (by decide)
      have b2 : cell / 1000003 % 999983 < 999983 := Int.emod_lt_of_pos _ (by decide)
      generalize cell % 1000003 = low at a1 a2
      generalize cell / 1000003 % 999983 = high at b1 b2
      refine ⟨_, rfl, l, cs, rfl, hl, .inl ⟨_, rfl, _, _, rfl, rfl, pos65521, ?_⟩⟩
      generalize cs.sum % 65521 = total
      refine ⟨_, rfl, _, rfl, _, _, rfl, rfl, .inl ⟨by decide, by decide⟩, _, _, rfl, rfl, _, _, rfl, rfl, .inr ⟨by decide, by decide⟩, _, rfl, _, _, rfl, rfl, .inl ⟨by decide, by decide⟩, _, _, rfl, rfl, _, rfl, _, _, rfl, rfl, .inl ⟨_, rfl, _, _, rfl, rfl, pos2147483647, ?_⟩⟩
      generalize hB : ((low + 977 * k) * 48271 + 31 * high + total) % 2147483647 = blend
      have c1 : 0 ≤ blend := by rw [← hB]; exact Int.emod_nonneg _ (by decide)
      have c2 : blend < 2147483647 := by rw [← hB]; exact Int.emod_lt_of_pos _ (by decide)
      refine ⟨_, rfl, _, rfl, _, rfl, _, _, rfl, rfl, .inl ⟨by decide, by decide⟩, _, _, rfl, rfl, _, _, rfl, rfl, _, _, rfl, rfl, .inl ⟨by omega, by omega⟩, .inl ⟨_, rfl, _, _, rfl, rfl, pos2147483629, _, _, rfl, rfl, .inr ⟨by decide, by decide⟩, _, rfl, _, _, rfl, rfl, ?_⟩⟩
      have d1 : 0 ≤ blend * (blend + 31 * k + 7) % 2147483629 := Int.emod_nonneg _ (by decide)
      have d2 : blend * (blend + 31 * k + 7) % 2147483629 < 2147483629 := Int.emod_lt_of_pos _ (by decide)
      exact q _ _ s1 (by omega) (by omega)
    · intro Q' hQ
      refine ⟨_, rfl, Nat.zero_le _, fun e he => ⟨.list (ns.map PyData.int), .list [], .lst ((same_upd he).seq hS) (dpInts ns), Dp.lstNew upd_same .nil, ints_shaped ns, by decide, _, rfl, ?_⟩⟩
      rw [ints_eqv]
      cases ns with
      | nil =>
        refine iteF ⟨by show 1 ≤ sizeLine; decide, fun l hl => hQ _ _ ⟨l, [5], rfl, Same.up (same_upd he) hl, .inl (.inl upd_same), by decide, by decide⟩⟩
      | cons n r =>
        refine iteT ⟨_, rfl, 63, rfl, a, _, rfl, (same_upd he).seq hS, fun l hl => hQ _ _ ⟨l, n :: r, rfl, Same.up (same_upd he) hl, .inl (.inl ?_), by simp, hn⟩⟩
        rw [cutAll _ (by rw [List.length_map]; exact hn)]
        exact upd_same
def sp_lletters (K : PySem.W.Frag) : Sp := fun vs H Q _ => ∃ (a : Addr) (ns : List Int) (k : Int), vs = [.ref a, .int k] ∧ Scr K H a ns ∧ 0 ≤ k ∧ k ≤ 10000 ∧ ∀ z H', Same H H' → z ∈ L8 → Q (.str z) H'
theorem l8_at : ∀ j : Nat, j < 8 → ∃ z, ([("ab" : Str), "ba", "abc", "_ab", "Aa", "cab_", "ab", "Zz_"][j]?) = some z ∧ z ∈ L8
  | 0, _ => ⟨_, rfl, by decide +kernel⟩
  | 1, _ => ⟨_, rfl, by decide +kernel⟩
  | 2, _ => ⟨_, rfl, by decide +kernel⟩
  | 3, _ => ⟨_, rfl, by decide +kernel⟩
  | 4, _ => ⟨_, rfl, by decide +kernel⟩
  | 5, _ => ⟨_, rfl, by decide +kernel⟩
  | 6, _ => ⟨_, rfl, by decide +kernel⟩
  | 7, _ => ⟨_, rfl, by decide +kernel⟩
  | n + 8, h => absurd h (by omega)
theorem ok_law_letters (T : Txt K mg A) : FnOk P w K mg base CX0 2 A.a_law_letters A.d_law_letters ["script", "at"] (sp_lletters K) := by
  refine T.f_law_letters.F.ok sc_law_letters (fun vs H Q E h => ?_) (fun cdv Ar outer s H vs Q E hr h => ?_)
  · obtain ⟨a, ns, k, rfl, _⟩ := h
    rfl
  · obtain ⟨a, ns, k, rfl, hS, k0, k1, q⟩ := h
    refine ⟨_, (pss_one (ps_ret (pe_ix ix_tup (pe_tup (pa_cons pe_str (pa_cons pe_str (pa_cons pe_str (pa_cons pe_str (pa_cons pe_str (pa_cons pe_str (pa_cons pe_str (pa_cons pe_str pa_nil))))))))) (pe_op op_mod (pe_callTy call_int1 (by rfl) T.n_int (by decide +kernel) (pa_cons (pe_call (ok_law_number T) (hr.mono (by decide)) (by rfl) T.f_law_number.g T.f_law_number.F.kp T.f_law_number.b .nil pass0 (pa_cons (pv 0) (pa_cons (pv 1) pa_nil))) pa_nil)) pe_int) (fun _ _ => rfl)))), ?_⟩
    refine ⟨by show 8 ≤ sizeLine; decide, fun t ht => ⟨_, rfl, _, rfl, a, ns, k, rfl, hS.same (same_upd ht), k0, k1, fun r H2 s2 r0 r1 => .inl ⟨_, rfl, _, _, rfl, rfl, pos8, ?_⟩⟩⟩
    have m0 : 0 ≤ r % 8 := Int.emod_nonneg _ (by decide)
    have m1 : r % 8 < 8 := Int.emod_lt_of_pos _ (by decide)
    obtain ⟨j, hj⟩ : ∃ j : Nat, r % 8 = (j : Int) := ⟨(r % 8).toNat, by omega⟩
    obtain ⟨z, hz1, hz2⟩ := l8_at j (by omega)
    refine ⟨t, _, _, .str z, rfl, rfl, .inl (.inl (s2 _ _ upd_same)), ?_, q z _ ((same_upd ht).trans s2) hz2⟩
    rw [hj]
    refine atI_nat ?_
    show ([("ab" : Str), "ba", "abc", "_ab", "Aa", "cab_", "ab", "Zz_"].map V.str)[j]? = _
    rw [List.getElem?_map, hz1]
    rfl
end
end K3
set_option Elab.async false
set_option linter.all false
set_option maxRecDepth 100000
set_option maxHeartbeats 4000000
namespace K3
open PySem PySem.Spec PyProof.Rows L2 FX
section
variable {P : Program} {w : World} {K : PySem.W.Frag} {mg : Str → Option Value} {base : Heap} {A : Ad}
theorem zs_app (x y : Str) : zs (x ++ y) = zs x ++ zs y := by
  show (x.cps ++ y.cps).toList = _
  rw [Array.toList_append]
  rfl
theorem len_app (x y : Str) : (x ++ y).length = x.length + y.length := by
  rw [← zs_length, zs_app, List.length_append, zs_length, zs_length]
/-- a letter at a drawn place -/
theorem letter_at {z : Str} (hz : z ∈ L8) (r : Int) : ∃ c, c ∈ zs z ∧ atI z.cps.toList (r % (z.length : Int)) = some c := by
  have hl := (l8_len z hz).1
  have m0 : 0 ≤ r % (z.length : Int) := Int.emod_nonneg _ (by omega)
  have m1 : r % (z.length : Int) < z.length := Int.emod_lt_of_pos _ (by omega)
  obtain ⟨j, hj⟩ : ∃ j : Nat, r % (z.length : Int) = (j : Int) := ⟨(r % (z.length : Int)).toNat, by omega⟩
  have hjl : j < (zs z).length := by rw [zs_length]; omega
  refine ⟨(zs z)[j], List.getElem_mem hjl, ?_⟩
  rw [hj]
  exact atI_nat (List.getElem?_eq_getElem hjl)
theorem l8_pos {z : Str} (hz : z ∈ L8) : (0 : Int) < (z.length : Int) := by
  have := (l8_len z hz).1
  omega
def sp_lvalue (K : PySem.W.Frag) : Sp := fun vs H Q _ => ∃ (a : Addr) (ns : List Int) (k : Int) (z : Str) (m : Nat), vs = [.ref a, .int k, .str z, .int m] ∧ Scr K H a ns ∧ 0 ≤ k ∧ k ≤ 10000 ∧ z ∈ L8 ∧ m ≤ 100 ∧
  ∀ x H', Same H H' → x.length ≤ m → (∀ c ∈ zs x, c ∈ zs z) → Q (.str x) H'
theorem ok_law_value (T : Txt K mg A) : FnOk P w K mg base CX0 2 A.a_law_value A.d_law_value ["script", "at", "letters", "most"] (sp_lvalue K) := by
  refine T.f_law_value.F.ok sc_law_value (fun vs H Q E h => ?_) (fun cdv Ar outer s H vs Q E hr h => ?_)
  · obtain ⟨a, ns, k, z, m, rfl, _⟩ := h
    rfl
  · obtain ⟨a, ns, k, z, m, rfl, hS, k0, k1, hz, hm, q⟩ := h
    refine ⟨_, (pss_cons (ps_par (i := 4) (j := 5) (by rfl) sc_law_value.nd rfl rfl (by decide) rfl rfl (pa_cons (pe_callTy call_int1 (by rfl) T.n_int (by decide +kernel) (pa_cons (pe_call (ok_law_number T) (hr.mono (by decide)) (by rfl) T.f_law_number.g T.f_law_number.F.kp T.f_law_number.b .nil pass0 (pa_cons (pv 0) (pa_cons (pv 1) pa_nil))) pa_nil)) (pa_cons pe_str pa_nil)) (by rfl)) (pss_cons (ps_for PassesOwn.never rfl (pi_range1 (by rfl) T.n_range (pa_cons (pe_op op_mod (pe_callTy call_int1 (by rfl) T.n_int (by decide +kernel) (pa_cons (pv 4) pa_nil)) (pe_op op_add (pv 3) pe_int)) pa_nil)) (pg_name (i := 6) sc_law_value.nd rfl (Or.inl rfl)) (pss_one (ps_set (i := 5) sc_law_value.nd rfl (Or.inl rfl) (pe_op op_add_str (pv 5) (pe_ix ix_str (pv 2) (pe_op op_mod (pe_callTy call_int1 (by rfl) T.n_int (by decide +kernel) (pa_cons (pe_op op_fdiv (pv 4) (pe_op op_add pe_int (pe_op op_mul pe_int (pv 6)))) pa_nil)) (pe_callB call_len_str (by rfl) T.n_len (by decide +kernel) (pa_cons (pv 2) pa_nil))) (fun _ _ => rfl)))))) (pss_one (ps_ret (pv 5))))), ?_⟩
    refine ⟨_, rfl, _, rfl, a, ns, k, rfl, hS, k0, k1, fun r H1 s1 r0 r1 => .inl ⟨_, rfl, _, _, rfl, ?_⟩⟩
    have p0 : (0 : Int) < (m : Int) + 1 := by omega
    have m0 : 0 ≤ r % ((m : Int) + 1) := Int.emod_nonneg _ (by omega)
    have m1 : r % ((m : Int) + 1) < (m : Int) + 1 := Int.emod_lt_of_pos _ p0
    refine ⟨_, rfl, .inl ⟨_, rfl, _, rfl, _, _, rfl, rfl, _, _, rfl, rfl, p0, ?_⟩⟩
    refine ⟨r % ((m : Int) + 1), rfl, by omega, by omega, for_range (lo := 0) (n := (r % ((m : Int) + 1)).toNat) (fun i σ H' => Same H H' ∧ ∃ x o, σ = [some (.ref a), some (.int k), some (.str z), some (.int m), some (.int r), some (.str x), o] ∧ x.length = i ∧ ∀ c ∈ zs x, c ∈ zs z)
      ⟨s1, Str.ofString "", none, rfl, rfl, by simp [← S_nil, zs_S]⟩ ?_ ?_⟩
    · rintro i σ H2 hi ⟨sm, x, o, rfl, hx, hxz⟩
      obtain ⟨c, hc1, hc2⟩ := letter_at hz (r / (7 + 11 * (0 + (i : Int))))
      refine ⟨_, rfl, _, rfl, _, rfl, _, rfl, _, _, rfl, rfl, .inl ⟨by decide, by decide⟩, _, _, rfl, rfl, _, _, rfl, rfl, ⟨by omega, by omega⟩, .inl ⟨_, rfl, _, rfl, z, rfl, l8_line hz, _, _, rfl, rfl, l8_pos hz, z, _, c, rfl, rfl, l8_line hz, hc2, x, _, rfl, rfl, ?_, sm, _, _, rfl, ?_, ?_⟩⟩
      · rw [hx]
        exact Nat.le_trans (show i + 1 ≤ 200 by omega) (by decide)
      · rw [len_app, hx]
        rfl
      · intro d hd
        rw [zs_app] at hd
        rcases List.mem_append.mp hd with h | h
        · exact hxz d h
        · have : d = c := by simpa [zs] using h
          rw [this]
          exact hc1
    · rintro σ H2 ⟨sm, x, o, rfl, hx, hxz⟩
      exact ⟨_, rfl, q x _ sm (by omega) hxz⟩
/-! rows -/
structure RowOk (zs : List Nat) (M : Nat) (row : List (Nat × List Nat)) : Prop where
  st : ∀ t ∈ row, t.1 < M
  one : ∀ t ∈ row, t.2.length ≤ 1
  out : ∀ t ∈ row, ∀ c ∈ t.2, c ∈ zs
theorem cut_ts {t : TS} {D : Ends} {σ : L2.St} {H : Hp} (G : L2.St → Hp → Prop) (h : ∀ σ1 H1, G σ1 H1 → D.nx σ1 H1) (k : ∀ nx' : L2.St → Hp → Prop, (∀ σ1 H1, G σ1 H1 → nx' σ1 H1) → t { D with nx := nx' } σ H) : t D σ H := k D.nx h
def sp_lrows (K : PySem.W.Frag) : Sp := fun vs H Q _ => ∃ (a : Addr) (ns : List Int) (k : Int) (z : Str) (m : Nat), vs = [.ref a, .int k, .str z, .int m] ∧ Scr K H a ns ∧ 0 ≤ k ∧ k ≤ 1000 ∧ z ∈ L8 ∧ 1 ≤ m ∧ m ≤ 6 ∧
  ∀ v H' R, Same H H' → MachOk (zs z) R → R.length ≤ m → Dp K (New H H') v (rowsD R) → Q v H'
theorem ok_law_rows (T : Txt K mg A) : FnOk P w K mg base CX0 2 A.a_law_rows A.d_law_rows ["script", "at", "letters", "most"] (sp_lrows K) := by
  refine T.f_law_rows.F.ok sc_law_rows (fun vs H Q E h => ?_) (fun cdv Ar outer s H vs Q E hr h => ?_)
  · obtain ⟨a, ns, k, z, m, rfl, _⟩ := h
    rfl
  · obtain ⟨a, ns, k, z, m, rfl, hS, k0, k1, hz, hm1, hm6, q⟩ := h
    refine ⟨_, (pss_cons (ps_par (i := 4) (j := 5) (by rfl) sc_law_rows.nd rfl rfl (by decide) rfl rfl (pa_cons (pe_op op_add pe_int (pe_op op_mod (pe_callTy call_int1 (by rfl) T.n_int (by decide +kernel) (pa_cons (pe_call (ok_law_number T) (hr.mono (by decide)) (by rfl) T.f_law_number.g T.f_law_number.F.kp T.f_law_number.b .nil pass0 (pa_cons (pv 0) (pa_cons (pv 1) pa_nil))) pa_nil)) (pv 3))) (pa_cons (pe_lst pa_nil) pa_nil)) (by rfl)) (pss_cons (ps_set (i := 6) sc_law_rows.nd rfl (Or.inl rfl) (pe_op op_add pe_int (pe_op op_mod (pe_callTy call_int1 (by rfl) T.n_int (by decide +kernel) (pa_cons (pe_call (ok_law_number T) (hr.mono (by decide)) (by rfl) T.f_law_number.g T.f_law_number.F.kp T.f_law_number.b .nil pass0 (pa_cons (pv 0) (pa_cons (pe_op op_add (pv 1) pe_int) pa_nil))) pa_nil)) pe_int))) (pss_cons (ps_for PassesOwn.never rfl (pi_range1 (by rfl) T.n_range (pa_cons (pv 4) pa_nil)) (pg_name (i := 7) sc_law_rows.nd rfl (Or.inl rfl)) (pss_cons (ps_set (i := 8) sc_law_rows.nd rfl (Or.inl rfl) (pe_lst pa_nil)) (pss_cons (ps_for PassesOwn.never rfl (pi_enumS (by rfl) T.n_enumerate (pa_cons (pv 2) pa_nil)) (pg_tup (by rfl) (pgs_cons (pg_name (i := 9) sc_law_rows.nd rfl (Or.inl rfl)) (pgs_cons (pg_name (i := 10) sc_law_rows.nd rfl (Or.inl rfl)) pgs_nil))) (pss_cons (ps_set (i := 11) sc_law_rows.nd rfl (Or.inl rfl) (pe_callTy call_int1 (by rfl) T.n_int (by decide +kernel) (pa_cons (pe_call (ok_law_number T) (hr.mono (by decide)) (by rfl) T.f_law_number.g T.f_law_number.F.kp T.f_law_number.b .nil pass0 (pa_cons (pv 0) (pa_cons (pe_op op_add (pe_op op_add (pe_op op_add (pv 1) pe_int) (pe_op op_mul pe_int (pv 7))) (pv 9)) pa_nil))) pa_nil))) (pss_cons (ps_set (i := 12) sc_law_rows.nd rfl (Or.inl rfl) (pe_ix ix_str (pv 2) (pe_op op_mod (pe_callTy call_int1 (by rfl) T.n_int (by decide +kernel) (pa_cons (pe_op op_fdiv (pv 11) pe_int) pa_nil)) (pe_callB call_len_str (by rfl) T.n_len (by decide +kernel) (pa_cons (pv 2) pa_nil))) (fun _ _ => rfl))) (pss_cons (ps_if (pt_cmpR op_eq (pe_op op_mod (pe_callTy call_int1 (by rfl) T.n_int (by decide +kernel) (pa_cons (pv 11) pa_nil)) (pv 6)) pe_int (nomark _)) (pss_one (ps_set (i := 12) sc_law_rows.nd rfl (Or.inl rfl) pe_str)) pss_nil) (pss_cons (ps_set (i := 12) sc_law_rows.nd rfl (Or.inl rfl) (pe_ifExp (pt_cmpR op_eq (pe_op op_mod (pe_callTy call_int1 (by rfl) T.n_int (by decide +kernel) (pa_cons (pe_op op_fdiv (pv 11) pe_int) pa_nil)) pe_int) pe_int (nomark _)) (pv 10) (pv 12))) (pss_one (ps_expr (pe_bm PySem.F.plainAttrs_list PySem.F.slot_list_append PySem.F.type_list_append mt_append (pv 8) (pa_cons (pe_tup (pa_cons (pe_op op_mod (pe_callTy call_int1 (by rfl) T.n_int (by decide +kernel) (pa_cons (pe_op op_fdiv (pv 11) pe_int) pa_nil)) (pv 4)) (pa_cons (pv 12) pa_nil))) pa_nil))))))))) (pss_one (ps_expr (pe_bm PySem.F.plainAttrs_list PySem.F.slot_list_append PySem.F.type_list_append mt_append (pv 5) (pa_cons (pe_callTy call_tuple_of (by rfl) T.n_tuple (by decide +kernel) (pa_cons (pv 8) pa_nil)) pa_nil))))))) (pss_one (ps_ret (pe_callTy call_tuple_of (by rfl) T.n_tuple (by decide +kernel) (pa_cons (pv 5) pa_nil))))))), ?_⟩
    refine ⟨_, rfl, _, rfl, a, ns, k, rfl, hS, k0, by omega, fun r H1 s1 r0 r1 => .inl ⟨_, rfl, ?_⟩⟩
    have p0 : (0 : Int) < (m : Int) := by omega
    have m0 : 0 ≤ r % (m : Int) := Int.emod_nonneg _ (by omega)
    have m1 : r % (m : Int) < (m : Int) := Int.emod_lt_of_pos _ p0
    obtain ⟨M, hM⟩ : ∃ M : Nat, 1 + r % (m : Int) = (M : Int) := ⟨(1 + r % (m : Int)).toNat, by omega⟩
    refine ⟨_, rfl, _, _, rfl, rfl, p0, _, _, rfl, rfl, ?_⟩
    refine ⟨Nat.zero_le _, fun FL hFL => ⟨_, _, rfl, ?_⟩⟩
    have f0 : H FL = none := s1.free hFL
    refine ⟨_, rfl, _, rfl, _, _, rfl, rfl, a, ns, k + 1, rfl, hS.same (Same.up s1 hFL), by omega, by omega, fun r2 H2 s2 r20 r21 => .inl ⟨_, rfl, _, _, rfl, rfl, pos5, _, _, rfl, rfl, ?_⟩⟩
    have t0 : 0 ≤ r2 % 5 := Int.emod_nonneg _ (by decide)
    have t1 : r2 % 5 < 5 := Int.emod_lt_of_pos _ (by decide)
    have s02 := (Same.up s1 hFL (o := .lst [])).trans s2
    refine ⟨_, rfl, 1 + r % (m : Int), rfl, by omega, by omega, for_range (lo := 0) (n := (1 + r % (m : Int)).toNat) (fun i σ H' => Same H H' ∧ ∃ R xs o7 o8 o9 o10 o11 o12, σ = [some (.ref a), some (.int k), some (.str z), some (.int m), some (.int (1 + r % (m : Int))), some (.ref FL), some (.int (2 + r2 % 5)), o7, o8, o9, o10, o11, o12] ∧
        H' FL = some (.lst xs) ∧ DpAll K (New H (hid [FL] H')) xs (R.map rowD) ∧ R.length = i ∧ ∀ row ∈ R, row.length = (zs z).length ∧ RowOk (zs z) M row)
      ⟨s02, [], [], none, none, none, none, none, none, rfl, s2 _ _ upd_same, .nil, rfl, fun _ h => nomatch h⟩ ?_ ?_⟩
    · rintro i σ H3 hi ⟨sm, R, xs, o7, o8, o9, o10, o11, o12, rfl, hx, dx, hR, hrows⟩
      have hiM : i < M := by omega
      refine ⟨Nat.zero_le _, fun WL hWL => ?_⟩
      have w0 : H WL = none := sm.free hWL
      have nFW : FL ≠ WL := ne_of_none hx hWL
      have sW := Same.up sm hWL (o := .lst [])
      have hmW : Same (hid [FL] H3) (hid [FL, WL] (upd H3 WL (.lst []))) := (hid_more hWL).trans (hid_less (by simp))
      refine ⟨_, rfl, z, rfl, ?_⟩
      refine for_it walk_enumS (fun j σ H' => Same H H' ∧ ∃ row ws o9 o10 o11 o12, σ = [some (.ref a), some (.int k), some (.str z), some (.int m), some (.int (1 + r % (m : Int))), some (.ref FL), some (.int (2 + r2 % 5)), some (.int ((0 : Int) + (i : Int))), some (.ref WL), o9, o10, o11, o12] ∧
          H' FL = some (.lst xs) ∧ DpAll K (New H (hid [FL, WL] H')) xs (R.map rowD) ∧ H' WL = some (.lst ws) ∧ DpAll K (New H (hid [FL, WL] H')) ws (row.map turnD) ∧ row.length = j ∧ RowOk (zs z) M row)
        ⟨sW, [], [], _, _, _, _, rfl, same_upd hWL _ _ hx, DpAll.same (new_trans hmW) dx, upd_same, .nil, rfl, ⟨fun _ h => (nomatch h), fun _ h => (nomatch h), fun _ h => (nomatch h)⟩⟩ (fun _ _ _ _ _ => trivial) ?_ ?_
      · rintro j y σ H4 H5 hj ⟨sm4, row, ws, o9, o10, o11, o12, rfl, hx4, dx4, hw4, dw4, hrl, hrok⟩ ⟨p, c, rfl, hp, rfl, hc⟩
        have hcz : c ∈ zs z := str_mem hc
        have sp := same_upd (o := .tup [.int (j : Nat), .str ⟨#[c]⟩]) hp
        have l4 := (l8_len z hz).2
        have hj4 : j < 4 := Nat.lt_of_lt_of_le hj l4
        refine ⟨p, _, rfl, .inl (.inl upd_same), rfl, _, _, rfl, _, _, rfl, rfl, ?_⟩
        refine ⟨_, rfl, _, rfl, _, _, rfl, rfl, _, rfl, _, _, rfl, rfl, .inl ⟨by decide, by decide⟩, _, _, rfl, rfl, _, rfl, _, _, rfl, rfl, a, ns, _, rfl, hS.same (sm4.trans sp), by omega, by omega, fun r3 H6 s6 r30 r31 => .inl ⟨_, rfl, ?_⟩⟩
        obtain ⟨d, hd1, hd2⟩ := letter_at hz (r3 / 9)
        refine ⟨_, rfl, _, rfl, _, _, rfl, rfl, ⟨by decide, by decide⟩, .inl ⟨_, rfl, _, rfl, z, rfl, l8_line hz, _, _, rfl, rfl, l8_pos hz, z, _, d, rfl, rfl, l8_line hz, hd2, ?_⟩⟩
        have pM : (0 : Int) < 1 + r % (m : Int) := by omega
        have pT : (0 : Int) < 2 + r2 % 5 := by omega
        obtain ⟨e1, e2⟩ : 0 ≤ r3 / 500 % (1 + r % (m : Int)) ∧ r3 / 500 % (1 + r % (m : Int)) < 1 + r % (m : Int) := ⟨Int.emod_nonneg _ (by omega), Int.emod_lt_of_pos _ pM⟩
        obtain ⟨t, ht⟩ : ∃ t : Nat, r3 / 500 % (1 + r % (m : Int)) = (t : Int) := ⟨(r3 / 500 % (1 + r % (m : Int))).toNat, by omega⟩
        have htM : t < M := by omega
        have sp6 := sp.trans s6
        have hx6 := sp6 _ _ hx4
        have hw6 := sp6 _ _ hw4
        have lws : ws.length < sizeLine := by
          rw [DpAll.len dw4, List.length_map, hrl]
          exact Nat.lt_trans hj4 (by decide)
        have fin : ∀ o : List Nat, o.length ≤ 1 → (∀ e ∈ o, e ∈ zs z) → ∀ u, H6 u = none → Same H (upd (upd H6 u (.tup [.int (r3 / 500 % (1 + r % (m : Int))), .str (S o)])) WL (.lst (ws ++ [.ref u]))) ∧ ∃ row ws' o9 o10 o11 o12,
            ([some (.ref a), some (.int k), some (.str z), some (.int m), some (.int (1 + r % (m : Int))), some (.ref FL), some (.int (2 + r2 % 5)), some (.int ((0 : Int) + (i : Int))), some (.ref WL), some (.int (j : Nat)), some (.str ⟨#[c]⟩), some (.int r3), some (.str (S o))] : L2.St) = [some (.ref a), some (.int k), some (.str z), some (.int m), some (.int (1 + r % (m : Int))), some (.ref FL), some (.int (2 + r2 % 5)), some (.int ((0 : Int) + (i : Int))), some (.ref WL), o9, o10, o11, o12] ∧
            upd (upd H6 u (.tup [.int (r3 / 500 % (1 + r % (m : Int))), .str (S o)])) WL (.lst (ws ++ [.ref u])) FL = some (.lst xs) ∧ DpAll K (New H (hid [FL, WL] (upd (upd H6 u (.tup [.int (r3 / 500 % (1 + r % (m : Int))), .str (S o)])) WL (.lst (ws ++ [.ref u]))))) xs (R.map rowD) ∧
            upd (upd H6 u (.tup [.int (r3 / 500 % (1 + r % (m : Int))), .str (S o)])) WL (.lst (ws ++ [.ref u])) WL = some (.lst ws') ∧ DpAll K (New H (hid [FL, WL] (upd (upd H6 u (.tup [.int (r3 / 500 % (1 + r % (m : Int))), .str (S o)])) WL (.lst (ws ++ [.ref u]))))) ws' (row.map turnD) ∧ row.length = j + 1 ∧ RowOk (zs z) M row := by
          intro o ho1 ho2 u hu
          have su := same_upd (o := .tup [.int (r3 / 500 % (1 + r % (m : Int))), .str (S o)]) hu
          have n : hid [FL, WL] (upd (upd H6 u (.tup [.int (r3 / 500 % (1 + r % (m : Int))), .str (S o)])) WL (.lst (ws ++ [.ref u]))) = hid [FL, WL] (upd H6 u (.tup [.int (r3 / 500 % (1 + r % (m : Int))), .str (S o)])) := hid_upd (by simp)
          have upn : Same (New H (hid [FL, WL] H4)) (New H (hid [FL, WL] (upd H6 u (.tup [.int (r3 / 500 % (1 + r % (m : Int))), .str (S o)])))) := new_trans (hid_same fun b o _ e => su b o (sp6 b o e))
          have uF : u ≠ FL := (ne_of_none hx6 hu).symm
          have uW : u ≠ WL := (ne_of_none hw6 hu).symm
          refine ⟨Same.set ((sm4.trans sp6).trans su) w0, row ++ [(t, o)], ws ++ [.ref u], _, _, _, _, rfl, ?_, ?_, upd_same, ?_, by rw [List.length_append, hrl]; rfl, ?_⟩
          · rw [upd_ne nFW]
            exact su _ _ hx6
          · rw [n]
            exact DpAll.same upn dx4
          · rw [n, List.map_append]
            refine DpAll.app (DpAll.same upn dw4) (.cons (Dp.tupNew (new_hid_at ((sm4.trans sp6).free hu) (by simp; exact ⟨uF, uW⟩) upd_same) ?_) .nil)
            rw [ht]
            exact .cons (.int _) (.cons (.str _) .nil)
          · refine ⟨fun x hx => ?_, fun x hx => ?_, fun x hx => ?_⟩
            · rcases List.mem_append.mp hx with h | h
              · exact hrok.st x h
              · simp at h
                rw [h]
                exact htM
            · rcases List.mem_append.mp hx with h | h
              · exact hrok.one x h
              · simp at h
                rw [h]
                exact ho1
            · rcases List.mem_append.mp hx with h | h
              · exact hrok.out x h
              · simp at h
                rw [h]
                exact ho2
        refine ⟨_, rfl, .inl ⟨_, rfl, _, rfl, _, _, rfl, rfl, pT, rfl, _, rfl, ?_⟩⟩
        by_cases q1 : r3 % (2 + r2 % 5) = 0
        · rw [show decide (V.int (r3 % (2 + r2 % 5)) = V.int 0) = true from decide_eq_true (by rw [q1])]
          refine iteT ⟨_, rfl, _, _, rfl, rfl, ⟨by decide, by decide⟩, .inl ⟨_, rfl, _, _, rfl, rfl, pos3, rfl, _, rfl, ?_⟩⟩
          by_cases q2 : r3 / 81 % 3 = 0
          · rw [show decide (V.int (r3 / 81 % 3) = V.int 0) = true from decide_eq_true (by rw [q2])]
            refine iteT ⟨_, rfl, _, rfl, .inl ⟨rfl, _, SqL.of hw6⟩, _, rfl, _, _, rfl, rfl, ⟨by decide, by decide⟩, .inl ⟨_, rfl, _, rfl, _, _, rfl, rfl, pM, _, rfl, by show 2 ≤ sizeLine; decide, fun u hu => ⟨WL, ws, _, rfl, rfl, same_upd hu _ _ hw6, lws, fin [c] (Nat.le_refl _) (by simp; exact hcz) u hu⟩⟩⟩
          · rw [show decide (V.int (r3 / 81 % 3) = V.int 0) = false from decide_eq_false (fun h => q2 (by injection h))]
            refine iteF ⟨_, rfl, _, rfl, .inl ⟨rfl, _, SqL.of hw6⟩, _, rfl, _, _, rfl, rfl, ⟨by decide, by decide⟩, .inl ⟨_, rfl, _, rfl, _, _, rfl, rfl, pM, _, rfl, by show 2 ≤ sizeLine; decide, fun u hu => ⟨WL, ws, _, rfl, rfl, same_upd hu _ _ hw6, lws, fin [] (Nat.zero_le _) (by simp) u hu⟩⟩⟩
        · rw [show decide (V.int (r3 % (2 + r2 % 5)) = V.int 0) = false from decide_eq_false (fun h => q1 (by injection h))]
          refine iteF ⟨_, rfl, _, _, rfl, rfl, ⟨by decide, by decide⟩, .inl ⟨_, rfl, _, _, rfl, rfl, pos3, rfl, _, rfl, ?_⟩⟩
          by_cases q2 : r3 / 81 % 3 = 0
          · rw [show decide (V.int (r3 / 81 % 3) = V.int 0) = true from decide_eq_true (by rw [q2])]
            refine iteT ⟨_, rfl, _, rfl, .inl ⟨rfl, _, SqL.of hw6⟩, _, rfl, _, _, rfl, rfl, ⟨by decide, by decide⟩, .inl ⟨_, rfl, _, rfl, _, _, rfl, rfl, pM, _, rfl, by show 2 ≤ sizeLine; decide, fun u hu => ⟨WL, ws, _, rfl, rfl, same_upd hu _ _ hw6, lws, fin [c] (Nat.le_refl _) (by simp; exact hcz) u hu⟩⟩⟩
          · rw [show decide (V.int (r3 / 81 % 3) = V.int 0) = false from decide_eq_false (fun h => q2 (by injection h))]
            refine iteF ⟨_, rfl, _, rfl, .inl ⟨rfl, _, SqL.of hw6⟩, _, rfl, _, _, rfl, rfl, ⟨by decide, by decide⟩, .inl ⟨_, rfl, _, rfl, _, _, rfl, rfl, pM, _, rfl, by show 2 ≤ sizeLine; decide, fun u hu => ⟨WL, ws, _, rfl, rfl, same_upd hu _ _ hw6, lws, fin [d] (Nat.le_refl _) (by simp; exact hd1) u hu⟩⟩⟩
      · rintro σ H4 ⟨sm4, row, ws, o9, o10, o11, o12, rfl, hx4, dx4, hw4, dw4, hrl, hrok⟩
        refine ⟨_, rfl, .inl ⟨rfl, _, SqL.of hx4⟩, _, rfl, WL, ws, rfl, .inl ⟨SqL.of hw4, fun u hu => ?_⟩⟩
        have su := same_upd (o := .tup ws) hu
        have uF : u ≠ FL := (ne_of_none hx4 hu).symm
        have upn : Same (New H (hid [FL, WL] H4)) (New H (hid [FL] (upd H4 u (.tup ws)))) := new_trans ((hid_less (by simp)).trans (hid_up hu))
        refine ⟨FL, xs, _, rfl, rfl, su _ _ hx4, ?_, Same.set (sm4.trans su) f0, R ++ [row], xs ++ [.ref u], _, _, _, _, _, _, rfl, upd_same, ?_, by rw [List.length_append, hR]; rfl, ?_⟩
        · rw [DpAll.len dx4, List.length_map, hR]
          exact Nat.lt_trans (show i < 7 by omega) (by decide)
        · rw [hid_upd (by simp), List.map_append]
          exact DpAll.app (DpAll.same upn dx4) (.cons (Dp.tupNew (new_hid_at (sm4.free hu) (by simp; exact uF) upd_same) (DpAll.same upn dw4)) .nil)
        · intro row' h
          rcases List.mem_append.mp h with h | h
          · exact hrows row' h
          · simp at h
            rw [h]
            exact ⟨by rw [hrl, zs]; simp, hrok⟩
    · rintro σ H3 ⟨sm, R, xs, o7, o8, o9, o10, o11, o12, rfl, hx, dx, hR, hrows⟩
      refine ⟨_, rfl, FL, xs, rfl, .inl ⟨.inl (.inl hx), fun l hl => ?_⟩⟩
      refine q _ _ R (Same.up sm hl) ⟨by omega, fun row h => (hrows row h).1, fun row h t ht => ?_, fun row h => (hrows row h).2.one, fun row h => (hrows row h).2.out⟩ (by omega) (tup_new (ls := [FL]) sm hl dx)
      have := (hrows row h).2.st t ht
      omega
end
end K3
set_option Elab.async false
set_option linter.all false
set_option maxRecDepth 100000
set_option maxHeartbeats 4000000
namespace K3
open PySem PySem.Spec PyProof.Rows L2 FX
section
variable {P : Program} {w : World} {K : PySem.W.Frag} {mg : Str → Option Value} {base : Heap} {A : Ad}
theorem gName_go {i : Nat} {x : V} {σ : L2.St} {H : Hp} {k : L2.St → Hp → Prop} (h : k (σ.set i (some x)) H) : gName i x σ H k := h
theorem seq_cut {t u : TS} {D : Ends} {σ : L2.St} {H : Hp} (G : L2.St → Hp → Prop) (h : ∀ σ1 H1, G σ1 H1 → u D σ1 H1) (k : ∀ nx' : L2.St → Hp → Prop, (∀ σ1 H1, G σ1 H1 → nx' σ1 H1) → t { D with nx := nx' } σ H) : tSeq t u D σ H := k (u D) h
/-! places -/
abbrev vN (k : Nat) : V := .int k
theorem inV_nat (i : Int) : ∀ ps : List Nat, inV (.int i) (ps.map vN) = ps.any fun k => decide ((k : Int) = i)
  | [] => rfl
  | p :: ps => by
    have ih := inV_nat i ps
    unfold inV at ih ⊢
    rw [List.map_cons, List.any_cons, List.any_cons, ih]
    rfl
theorem inV_mem (k : Nat) (ps : List Nat) : inV (.int k) (ps.map vN) = decide (k ∈ ps) := by
  rw [inV_nat, Bool.eq_iff_iff, List.any_eq_true, decide_eq_true_eq]
  constructor
  · rintro ⟨x, hx, e⟩
    have : x = k := Int.ofNat.inj (of_decide_eq_true e)
    rwa [← this]
  · exact fun h => ⟨k, h, by simp⟩
theorem flat_nats (ps : List Nat) : (ps.map vN).all flatV = true := by
  rw [List.all_eq_true]
  intro v hv
  obtain ⟨k, _, rfl⟩ := List.mem_map.mp hv
  rfl
theorem sign_eq (c d : Nat) : decide (V.str (S [c]) = V.str (S [d])) = decide (c = d) := by
  rw [Bool.eq_iff_iff, decide_eq_true_eq, decide_eq_true_eq]
  constructor
  · intro h
    have := S_inj (V.str.inj h)
    simpa using this
  · rintro rfl; rfl
def placesD (ps : List Nat) : PyData := .tuple (ps.map fun k : Nat => PyData.int k)
theorem dpNats {H : Hp} : ∀ ps : List Nat, DpAll K H (ps.map vN) (ps.map fun k : Nat => PyData.int k)
  | [] => .nil
  | p :: ps => .cons (.int _) (dpNats ps)
def skipsUp (s ps : List Nat) (i : Nat) : List Nat := (List.range i).filter (isIn s ps)
theorem skipsUp_succ (s ps : List Nat) (i : Nat) : skipsUp s ps (i + 1) = skipsUp s ps i ++ (if isIn s ps i = true then [i] else []) := by
  unfold skipsUp
  rw [List.range_succ, List.filter_append]
  congr 1
  by_cases h : isIn s ps i = true <;> simp [h]
theorem mem_skipsUp {s ps : List Nat} {i k : Nat} : k ∈ skipsUp s ps i ↔ k < i ∧ isIn s ps k = true := by
  unfold skipsUp
  rw [List.mem_filter, List.mem_range]
theorem skipsUp_len (s ps : List Nat) (i : Nat) : (skipsUp s ps i).length ≤ i := by
  have := List.length_filter_le (isIn s ps) (List.range i)
  rwa [List.length_range] at this
def sp_with_skips (K : PySem.W.Frag) : Sp := fun vs H Q _ => ∃ (s : List Nat) (a : Addr) (ps : List Nat), vs = [.str (S s), .ref a] ∧ s.length ≤ 100 ∧ SqL K H a (ps.map vN) ∧ ∀ t H', Same H H' → SqT K H' t ((skips s ps).map vN) → Q (.ref t) H'
theorem ok_with_skips (T : Txt K mg A) : FnOk P w K mg base CX0 1 A.a_with_skips A.d_with_skips ["pattern", "places"] (sp_with_skips K) := by
  refine T.f_with_skips.F.ok sc_with_skips (fun vs H Q E h => ?_) (fun cdv Ar outer s H vs Q E hr h => ?_)
  · obtain ⟨s, a, ps, rfl, _⟩ := h
    rfl
  · obtain ⟨s, a, ps, rfl, hs, ha, q⟩ := h
    refine ⟨_, (pss_cons (ps_set (i := 2) sc_with_skips.nd rfl (Or.inl rfl) (pe_lst pa_nil)) (pss_cons (ps_for PassesOwn.never rfl (pi_range1 (by rfl) T.n_range (pa_cons (pe_op op_add (pe_callB call_len_str (by rfl) T.n_len (by decide +kernel) (pa_cons (pv 0) pa_nil)) pe_int) pa_nil)) (pg_name (i := 3) sc_with_skips.nd rfl (Or.inl rfl)) (pss_cons (ps_set (i := 4) sc_with_skips.nd rfl (Or.inl rfl) (pe_and (pe_cmpR op_in_seq (pe_op op_sub (pv 3) pe_int) (pv 2) (by rfl)) (pe_one (pe_cmpR op_eq (pe_ix ix_str (pv 0) (pe_op op_sub (pv 3) pe_int) (fun _ _ => rfl)) pe_str (nomark _))))) (pss_one (ps_if (PW.pt (pw_or (pt_cmpR op_in_seq (pv 3) (pv 1) (by rfl)) (pw_or1 (pt_val (pv 4))))) (pss_one (ps_expr (pe_bm PySem.F.plainAttrs_list PySem.F.slot_list_append PySem.F.type_list_append mt_append (pv 2) (pa_cons (pv 3) pa_nil)))) pss_nil)))) (pss_one (ps_ret (pe_callTy call_tuple_of (by rfl) T.n_tuple (by decide +kernel) (pa_cons (pv 2) pa_nil)))))), ?_⟩
    refine ⟨Nat.zero_le _, fun l hl => ?_⟩
    have l0 : H l = none := hl
    have hz : (S s).length = s.length := S_len s
    have en : (((S s).length : Int) + 1).toNat = s.length + 1 := by rw [hz]; omega
    refine ⟨_, rfl, S s, rfl, by rw [hz]; exact Nat.le_trans hs (by decide), _, _, rfl, rfl, _, rfl, by omega, by omega, ?_⟩
    refine for_range (lo := 0) (n := (((S s).length : Int) + 1).toNat) (fun i σ H' => Same H H' ∧ ∃ o1 o2, σ = [some (.str (S s)), some (.ref a), some (.ref l), o1, o2] ∧ H' l = some (.lst ((skipsUp s ps i).map vN)))
      ⟨same_upd l0, none, none, rfl, upd_same⟩ ?_ ?_
    · rintro i σ H2 hi ⟨sm, o1, o2, rfl, hL⟩
      rw [en] at hi
      unfold tSeq
      unfold tAsg
      refine cut_te (fun x H1 => H1 = H2 ∧ ∃ sk, x = .bl sk ∧ isIn s ps i = (decide (i ∈ ps) || sk)) ?_ ?_
      · rintro _ _ ⟨rfl, sk, rfl, e⟩
        rename_i H2
        have add : isIn s ps i = true → skipsUp s ps (i + 1) = skipsUp s ps i ++ [i] := fun h => by rw [skipsUp_succ, if_pos h]
        have non : isIn s ps i = false → skipsUp s ps (i + 1) = skipsUp s ps i := fun h => by rw [skipsUp_succ, if_neg (by rw [h]; exact Bool.false_ne_true), List.append_nil]
        have ll : (skipsUp s ps i).length < sizeLine := Nat.lt_of_le_of_lt (Nat.le_trans (skipsUp_len s ps i) (show i ≤ 101 by omega)) (by decide)
        refine ⟨_, rfl, _, rfl, a, _, rfl, .inl (sm.seq ha), rfl, flat_nats ps, _, rfl, ?_⟩
        rw [show inV (.int ((0 : Int) + (i : Int))) (ps.map vN) = decide (i ∈ ps) by rw [Int.zero_add]; exact inV_mem i ps]
        cases e1 : decide (i ∈ ps) with
        | true =>
          rw [e1, Bool.true_or] at e
          refine iteT ⟨_, rfl, .inl ⟨rfl, _, SqL.of hL⟩, _, rfl, l, _, _, rfl, rfl, hL, by rw [List.length_map]; exact ll, Same.set sm l0, _, _, rfl, ?_⟩
          rw [upd_same, add e, List.map_append, int0]
          rfl
        | false =>
          rw [e1, Bool.false_or] at e
          refine iteF ⟨_, rfl, _, rfl, ?_⟩
          cases sk with
          | true =>
            refine iteT ⟨_, rfl, .inl ⟨rfl, _, SqL.of hL⟩, _, rfl, l, _, _, rfl, rfl, hL, by rw [List.length_map]; exact ll, Same.set sm l0, _, _, rfl, ?_⟩
            rw [upd_same, add e, List.map_append, int0]
            rfl
          | false =>
            refine iteF ⟨sm, _, _, rfl, ?_⟩
            rw [hL, non e]
      · rintro Q' k
        refine ⟨_, rfl, _, _, rfl, rfl, _, rfl, l, _, rfl, .inl (SqL.of hL), rfl, flat_nats _, _, rfl, ?_⟩
        show if inV (.int (0 + (i : Int) - 1)) ((skipsUp s ps i).map vN) = true then _ else _
        cases i with
        | zero =>
          rw [inV_nat]
          refine iteF (k _ _ ⟨rfl, false, rfl, ?_⟩)
          rw [Bool.or_false]
          rfl
        | succ j =>
          rw [show (0 : Int) + ((j + 1 : Nat) : Int) - 1 = (j : Int) by omega, inV_mem, show decide (j ∈ skipsUp s ps (j + 1)) = isIn s ps j by rw [Bool.eq_iff_iff, decide_eq_true_eq, mem_skipsUp]; simp]
          have ei : isIn s ps (j + 1) = (decide (j + 1 ∈ ps) || (isIn s ps j && decide (s[j]? = some 42))) := rfl
          cases e1 : isIn s ps j with
          | false => exact iteF (k _ _ ⟨rfl, false, rfl, by rw [ei, e1, Bool.false_and]⟩)
          | true =>
            have hj : j < s.length := by omega
            have ej : s[j]? = some s[j] := List.getElem?_eq_getElem hj
            have ea : atI (S s).cps.toList ((0 : Int) + ((j + 1 : Nat) : Int) - 1) = some s[j] := by
              rw [show (0 : Int) + ((j + 1 : Nat) : Int) - 1 = (j : Int) by omega]
              exact atI_nat (by rw [show (S s).cps.toList = s from zs_S s]; exact ej)
            refine iteT ⟨_, rfl, _, rfl, _, _, rfl, rfl, S s, _, s[j], rfl, rfl, by rw [hz]; exact Nat.le_trans hs (by decide), ea, rfl, k _ _ ⟨rfl, _, rfl, ?_⟩⟩
            rw [ei, e1, Bool.true_and, ej, show (Str.ofString "*") = S [42] from rfl, show (⟨#[s[j]]⟩ : Str) = S [s[j]] from rfl, sign_eq]
            congr 2
            simp
    · rintro σ H2 ⟨sm, o1, o2, rfl, hL⟩
      rw [en] at hL
      exact ⟨_, rfl, l, _, rfl, .inl ⟨SqL.of hL, fun t ht => q t _ (Same.up sm ht) (SqT.of (by rw [upd_same]; rfl))⟩⟩
/-! the next places -/
def signAt (s : List Nat) (p : Nat) : List Nat := match s[p]? with | some c => [c] | none => []
theorem cut1 (s : List Nat) (p : Nat) : cutS (S s) (some (p : Int)) (some ((p : Int) + 1)) = S (signAt s p) := by
  have hz : (S s).length = s.length := S_len s
  unfold cutS
  rw [hz, show ((p : Int) + 1) = ((p + 1 : Nat) : Int) by omega, HT.sIx_nat, HT.sIx_nat, show (S s).cps.toList = s from zs_S s]
  show S _ = _
  congr 1
  unfold signAt
  by_cases h : p < s.length
  · rw [show min p s.length = p by omega, show min (p + 1) s.length - p = 1 by omega, List.drop_eq_getElem_cons h, List.getElem?_eq_getElem h]
    rfl
  · rw [show min (p + 1) s.length - min p s.length = 0 by omega, List.getElem?_eq_none (by omega)]
    rfl
theorem sign_star (s : List Nat) (p c : Nat) : decide (V.str (S (signAt s p)) = V.str (S [c])) = decide (s[p]? = some c) := by
  rw [Bool.eq_iff_iff, decide_eq_true_eq, decide_eq_true_eq]
  unfold signAt
  constructor
  · intro h
    have h2 := S_inj (V.str.inj h)
    cases e : s[p]? with
    | none => rw [e] at h2; cases h2
    | some d => rw [e] at h2; rw [(List.cons.inj h2).1]
  · intro h
    rw [h]
theorem str_beq (a b : Str) : (a == b) = decide (V.str a = V.str b) := by
  rw [Bool.eq_iff_iff, beq_iff_eq, decide_eq_true_eq]
  exact ⟨fun h => by rw [h], fun h => V.str.inj h⟩
theorem sign_in (s : List Nat) (p c : Nat) : inV (.str (S (signAt s p))) [.str (Str.ofString "?"), .str (S [c])] = decide (s[p]? = some 63 ∨ s[p]? = some c) := by
  show (eqV (.str (Str.ofString "?")) (.str (S (signAt s p))) || (eqV (.str (S [c])) (.str (S (signAt s p))) || false)) = _
  have h : ∀ d, eqV (.str (S [d])) (.str (S (signAt s p))) = decide (s[p]? = some d) := fun d => by
    show ((S [d]) == (S (signAt s p))) = _
    rw [str_beq, ← sign_star]
    exact decide_eq_decide.mpr ⟨Eq.symm, Eq.symm⟩
  rw [show (Str.ofString "?") = S [63] from rfl, h, h, Bool.or_false, Bool.eq_iff_iff]
  simp
theorem raw_succ {s ps : List Nat} {c i p : Nat} (h : ps[i]? = some p) : raw s (ps.take (i + 1)) c = raw s (ps.take i) c ++ rawAt s c p := by
  unfold raw
  rw [take_succ' h, List.map_append, List.flatten_append]
  simp
theorem raw_len (s : List Nat) (c : Nat) : ∀ ps : List Nat, (raw s ps c).length ≤ 2 * ps.length
  | [] => Nat.le_refl _
  | p :: ps => by
    have ih := raw_len s c ps
    have h1 : (rawAt s c p).length ≤ 2 := by unfold rawAt; split <;> split <;> simp
    show (rawAt s c p ++ raw s ps c).length ≤ _
    rw [List.length_append, List.length_cons]
    omega
def sp_next_places (K : PySem.W.Frag) : Sp := fun vs H Q _ => ∃ (s : List Nat) (a : Addr) (ps : List Nat) (c : Nat), vs = [.str (S s), .ref a, .str (S [c])] ∧ s.length ≤ 100 ∧ ps.length ≤ 1000 ∧ SqT K H a (ps.map vN) ∧ ∀ t H', Same H H' → SqT K H' t ((nextP s ps c).map vN) → Q (.ref t) H'
theorem ok_next_places (T : Txt K mg A) : FnOk P w K mg base CX0 2 A.a_next_places A.d_next_places ["pattern", "now", "letter"] (sp_next_places K) := by
  refine T.f_next_places.F.ok sc_next_places (fun vs H Q E h => ?_) (fun cdv Ar outer s H vs Q E hr h => ?_)
  · obtain ⟨s, a, ps, c, rfl, _⟩ := h
    rfl
  · obtain ⟨s, a, ps, c, rfl, hs, hp, ha, q⟩ := h
    refine ⟨_, (pss_cons (ps_set (i := 3) sc_next_places.nd rfl (Or.inl rfl) (pe_lst pa_nil)) (pss_cons (ps_for PassesOwn.never rfl (pi_tup (pv 1)) (pg_name (i := 4) sc_next_places.nd rfl (Or.inl rfl)) (pss_cons (ps_set (i := 5) sc_next_places.nd rfl (Or.inl rfl) (pe_slice sl_str (pv 0) (po_some (pv 4)) (po_some (pe_op op_add (pv 4) pe_int)))) (pss_cons (ps_if (pt_cmpR op_eq (pv 5) pe_str (nomark _)) (pss_one (ps_expr (pe_bm PySem.F.plainAttrs_list PySem.F.slot_list_append PySem.F.type_list_append mt_append (pv 3) (pa_cons (pv 4) pa_nil)))) pss_nil) (pss_one (ps_if (pt_cmpR op_in_seq (pv 5) (pe_tup (pa_cons pe_str (pa_cons (pv 2) pa_nil))) (by rfl)) (pss_one (ps_expr (pe_bm PySem.F.plainAttrs_list PySem.F.slot_list_append PySem.F.type_list_append mt_append (pv 3) (pa_cons (pe_op op_add (pv 4) pe_int) pa_nil)))) pss_nil))))) (pss_one (ps_ret (pe_call (ok_with_skips T) (hr.mono (by decide)) (by rfl) T.f_with_skips.g T.f_with_skips.F.kp T.f_with_skips.b .nil pass0 (pa_cons (pv 0) (pa_cons (pv 3) pa_nil))))))), ?_⟩
    refine ⟨Nat.zero_le _, fun l hl => ?_⟩
    have l0 : H l = none := hl
    have hz : (S s).length = s.length := S_len s
    refine ⟨_, rfl, a, rfl, ⟨_, SqT.same (same_upd l0) ha⟩, ?_⟩
    refine for_it (walk_tup (xs := ps.map vN)) (fun i σ H' => Same H H' ∧ ∃ o1 o2, σ = [some (.str (S s)), some (.ref a), some (.str (S [c])), some (.ref l), o1, o2] ∧ H' l = some (.lst ((raw s (ps.take i) c).map vN)))
      ⟨same_upd l0, none, none, rfl, upd_same⟩ (fun i σ H' _ z => SqT.same z.1 ha) ?_ ?_
    · rintro i y σ H2 H3 hi ⟨sm, o1, o2, rfl, hL⟩ ⟨rfl, hy⟩
      obtain ⟨p, hpi, rfl⟩ : ∃ p, ps[i]? = some p ∧ y = vN p := by
        rw [List.getElem?_map] at hy
        cases e : ps[i]? with
        | none => rw [e] at hy; cases hy
        | some p => rw [e] at hy; exact ⟨p, rfl, (Option.some.inj hy).symm⟩
      rw [List.length_map] at hi
      have ll : (raw s (ps.take i) c).length ≤ 2000 := Nat.le_trans (raw_len s c _) (by rw [List.length_take]; omega)
      refine ⟨_, rfl, _, rfl, _, rfl, _, rfl, _, _, rfl, rfl, _, rfl, S s, rfl, by rw [hz]; exact Nat.le_trans hs (by decide), ?_⟩
      rw [cut1]
      dsimp only
      refine gName_go (seq_cut (fun σ1 H1 => Same H H1 ∧ σ1 = [some (.str (S s)), some (.ref a), some (.str (S [c])), some (.ref l), some (vN p), some (.str (S (signAt s p)))] ∧ H1 l = some (.lst ((raw s (ps.take i) c ++ (if s[p]? = some 42 then [p] else [])).map vN))) ?_ ?_)
      · rintro _ H4 ⟨sm, rfl, hL⟩
        have ll2 : (raw s (ps.take i) c ++ (if s[p]? = some 42 then [p] else [])).length ≤ 2001 := by
          rw [List.length_append]
          have : (if s[p]? = some 42 then [p] else []).length ≤ 1 := by split <;> simp
          omega
        refine ⟨_, rfl, _, rfl, by show 2 ≤ sizeLine; decide, fun t ht => ⟨t, _, rfl, .inr (SqT.of upd_same), rfl, rfl, _, rfl, ?_⟩⟩
        have tl : t ≠ l := fun e => by rw [e, hL] at ht; cases ht
        have hL2 : upd H4 t (.tup [V.str (Str.ofString "?"), V.str (S [c])]) l = some (.lst ((raw s (ps.take i) c ++ (if s[p]? = some 42 then [p] else [])).map vN)) := same_upd ht l _ hL
        rw [if_neg Bool.false_ne_true, sign_in, raw_succ hpi]
        by_cases e : s[p]? = some 63 ∨ s[p]? = some c
        · rw [decide_eq_true e]
          refine iteT ⟨_, rfl, .inl ⟨rfl, _, SqL.of hL2⟩, _, rfl, _, _, rfl, rfl, l, _, _, rfl, rfl, hL2, ?_, Same.set (Same.up sm ht) l0, _, _, rfl, ?_⟩
          · rw [List.length_map]; exact Nat.lt_of_le_of_lt ll2 (by decide)
          · rw [upd_same]
            unfold rawAt
            rw [if_pos e, ← List.append_assoc, List.map_append, List.map_append, List.map_append]
            rfl
        · rw [decide_eq_false e]
          refine iteF ⟨Same.up sm ht, _, _, rfl, ?_⟩
          rw [hL2]
          unfold rawAt
          rw [if_neg e, List.append_nil]
      · intro nx' k
        refine ⟨_, rfl, rfl, _, rfl, ?_⟩
        rw [show (Str.ofString "*") = S [42] from rfl, sign_star]
        by_cases e : s[p]? = some 42
        · rw [decide_eq_true e]
          refine iteT ⟨_, rfl, .inl ⟨rfl, _, SqL.of hL⟩, _, rfl, l, _, _, rfl, rfl, hL, ?_, k _ _ ⟨Same.set sm l0, rfl, ?_⟩⟩
          · rw [List.length_map]; exact Nat.lt_of_le_of_lt ll (by decide)
          · rw [upd_same, if_pos e, List.map_append]
            rfl
        · rw [decide_eq_false e]
          refine iteF (k _ _ ⟨sm, rfl, ?_⟩)
          rw [hL, if_neg e, List.append_nil]
    · rintro σ H2 ⟨sm, o1, o2, rfl, hL⟩
      rw [List.length_map, List.take_length] at hL
      exact ⟨_, rfl, _, rfl, s, l, raw s ps c, rfl, hs, SqL.of hL, fun t H3 s3 ht => q t H3 (sm.trans s3) ht⟩
end
end K3
set_option Elab.async false
set_option linter.all false
set_option maxRecDepth 100000
set_option maxHeartbeats 4000000
namespace K3
open PySem PySem.Spec PyProof.Rows L2 FX
section
variable {P : Program} {w : World} {K : PySem.W.Frag} {mg : Str → Option Value} {base : Heap} {A : Ad}
theorem S_line {t : List Nat} (h : t.length ≤ 100) : (S t).length ≤ sizeLine := by rw [S_len]; exact Nat.le_trans h (by decide)
theorem atS {t : List Nat} {i c : Nat} (h : t[i]? = some c) : atI (S t).cps.toList (i : Int) = some c := atI_nat (by rw [show (S t).cps.toList = t from zs_S t]; exact h)
theorem dec_int (a b : Int) : decide (V.int a = V.int b) = decide (a = b) := decide_eq_decide.mpr ⟨fun h => V.int.inj h, fun h => by rw [h]⟩
def sp_next_matched (K : PySem.W.Frag) : Sp := fun vs H Q _ => ∃ (a : Addr) (b : Bool) (t : List Nat) (z : Int) (c : Nat), vs = [.ref a, .int z, .str (S [c])] ∧ SqT K H a [.str (if b = true then "begins" else "equal"), .str (S t)] ∧ t.length ≤ 100 ∧ -1 ≤ z ∧ z ≤ t.length ∧ Q (.int (mNext b t z c)) H
theorem ok_next_matched (T : Txt K mg A) : FnOk P w K mg base CX0 1 A.a_next_matched A.d_next_matched ["condition", "now", "letter"] (sp_next_matched K) := by
  refine T.f_next_matched.F.ok sc_next_matched (fun vs H Q E h => ?_) (fun cdv Ar outer s H vs Q E hr h => ?_)
  · obtain ⟨a, b, t, z, c, rfl, _⟩ := h
    rfl
  · obtain ⟨a, b, t, z, c, rfl, ha, ht, z0, z1, q⟩ := h
    refine ⟨_, (pss_cons (ps_asg (pv 0) (pg_tup (by rfl) (pgs_cons (pg_name (i := 3) sc_next_matched.nd rfl (Or.inl rfl)) (pgs_cons (pg_name (i := 4) sc_next_matched.nd rfl (Or.inl rfl)) pgs_nil)))) (pss_cons (ps_if (PW.pt (pw_and (pt_cmpR op_eq (pv 1) (pe_callB call_len_str (by rfl) T.n_len (by decide +kernel) (pa_cons (pv 4) pa_nil)) (nomark _)) (pw_and1 (pt_cmpR op_eq (pv 3) pe_str (nomark _))))) (pss_one (ps_ret (pv 1))) pss_nil) (pss_cons (ps_if (PW.pt (pw_and (pt_chain op_le op_lt pe_int (pv 1) (pe_callB call_len_str (by rfl) T.n_len (by decide +kernel) (pa_cons (pv 4) pa_nil))) (pw_and1 (pt_cmpR op_eq (pv 2) (pe_ix ix_str (pv 4) (pv 1) (fun _ _ => rfl)) (nomark _))))) (pss_one (ps_ret (pe_op op_add (pv 1) pe_int))) pss_nil) (pss_one (ps_ret (pe_glob (v := v_UNLIKE) rfl T.c_UNLIKE ⟨_, rfl⟩)))))), ?_⟩
    have hl : (S t).length = t.length := S_len t
    refine ⟨_, rfl, a, _, rfl, ha, rfl, _, _, rfl, _, _, rfl, rfl, ?_⟩
    dsimp only
    refine seq_cut (fun σ1 H1 => σ1 = [some (.ref a), some (.int z), some (.str (S [c])), some (.str (if b = true then "begins" else "equal")), some (.str (S t))] ∧ H1 = H ∧ ¬ (b = true ∧ z = t.length)) ?_ ?_
    · rintro _ _ ⟨rfl, rfl, nb⟩
      have em : mNext b t z c = if 0 ≤ z ∧ t[z.toNat]? = some c then z + 1 else -1 := if_neg nb
      rw [em] at q
      refine ⟨_, rfl, _, _, rfl, rfl, _, rfl, ?_⟩
      by_cases h0 : 0 ≤ z
      · rw [decide_eq_true h0]
        refine iteT ⟨_, rfl, S t, rfl, S_line ht, _, _, rfl, rfl, _, rfl, ?_⟩
        rw [hl]
        by_cases h1 : z < t.length
        · rw [decide_eq_true h1]
          obtain ⟨i, rfl⟩ : ∃ i : Nat, z = (i : Int) := ⟨z.toNat, by omega⟩
          have hi : i < t.length := by omega
          have ei : t[i]? = some t[i] := List.getElem?_eq_getElem hi
          refine iteT ⟨_, rfl, _, rfl, _, rfl, S t, _, t[i], rfl, rfl, S_line ht, atS ei, rfl, _, rfl, ?_⟩
          rw [show (⟨#[t[i]]⟩ : Str) = S [t[i]] from rfl, sign_eq]
          rw [Int.toNat_natCast, ei] at q
          by_cases e : c = t[i]
          · rw [decide_eq_true e]
            rw [if_pos ⟨h0, by rw [e]⟩] at q
            exact iteT ⟨_, rfl, _, _, rfl, rfl, q⟩
          · rw [decide_eq_false e]
            rw [if_neg (fun h => e (Option.some.inj h.2).symm)] at q
            exact iteF q
        · rw [decide_eq_false h1]
          rw [if_neg (fun h => by have := (List.getElem?_eq_some_iff.mp h.2).1; omega)] at q
          exact iteF (iteF q)
      · rw [decide_eq_false h0]
        rw [if_neg (fun h => h0 h.1)] at q
        exact iteF ⟨_, rfl, iteF (iteF q)⟩
    · intro nx' k
      refine ⟨_, rfl, _, rfl, S t, rfl, S_line ht, rfl, _, rfl, ?_⟩
      rw [hl, dec_int]
      by_cases e : z = t.length
      · rw [decide_eq_true e]
        refine iteT ⟨_, rfl, rfl, _, rfl, ?_⟩
        cases b with
        | true =>
          refine iteT ⟨_, rfl, ?_⟩
          rw [show mNext true t z c = z from if_pos ⟨rfl, e⟩] at q
          exact q
        | false => exact iteF (k _ _ ⟨rfl, rfl, fun h => Bool.false_ne_true h.1⟩)
      · rw [decide_eq_false e]
        exact iteF (k _ _ ⟨rfl, rfl, fun h => e h.2⟩)
def sp_next_beside (K : PySem.W.Frag) : Sp := fun vs H Q _ => ∃ (z : Str) (t : List Nat) (n : Int) (c : Nat), vs = [.str z, .str (S t), .int n, .str (S [c])] ∧ z ∈ L8 ∧ c ∈ zs z ∧ (∀ d ∈ t, d ∈ zs z) ∧ t.length ≤ 100 ∧ -2 ≤ n ∧ n ≤ t.length ∧ ∀ H', Same H H' → Q (.int (bNext (ix (zs z)) t n c)) H'
theorem ok_next_beside (T : Txt K mg A) : FnOk P w K mg base CX0 1 A.a_next_beside A.d_next_beside ["letters", "bound", "now", "letter"] (sp_next_beside K) := by
  refine T.f_next_beside.F.ok sc_next_beside (fun vs H Q E h => ?_) (fun cdv Ar outer s H vs Q E hr h => ?_)
  · obtain ⟨z, t, n, c, rfl, _⟩ := h
    rfl
  · obtain ⟨z, t, n, c, rfl, hz, hc, hd, ht, n0, n1, q⟩ := h
    refine ⟨_, (pss_cons (ps_if (pt_cmpR op_in_seq (pv 2) (pe_tup (pa_cons (pe_glob (v := v_AHEAD) rfl T.c_AHEAD ⟨_, rfl⟩) (pa_cons (pe_glob (v := v_BEHIND) rfl T.c_BEHIND ⟨_, rfl⟩) pa_nil))) (by rfl)) (pss_one (ps_ret (pv 2))) pss_nil) (pss_cons (ps_if (pt_cmpR op_eq (pv 2) (pe_callB call_len_str (by rfl) T.n_len (by decide +kernel) (pa_cons (pv 1) pa_nil)) (nomark _)) (pss_one (ps_ret (pe_glob (v := v_BEHIND) rfl T.c_BEHIND ⟨_, rfl⟩))) pss_nil) (pss_cons (ps_if (pt_cmpR op_eq (pv 3) (pe_ix ix_str (pv 1) (pv 2) (fun _ _ => rfl)) (nomark _)) (pss_one (ps_ret (pe_op op_add (pv 2) pe_int))) pss_nil) (pss_one (ps_ret (pe_ifExp (pt_cmpR op_lt (pe_m1 PySem.F.slot_str_index PySem.F.type_str_index mt_sindex (pv 0) (pv 3)) (pe_m1 PySem.F.slot_str_index PySem.F.type_str_index mt_sindex (pv 0) (pe_ix ix_str (pv 1) (pv 2) (fun _ _ => rfl))) (nomark _)) (pe_glob (v := v_AHEAD) rfl T.c_AHEAD ⟨_, rfl⟩) (pe_glob (v := v_BEHIND) rfl T.c_BEHIND ⟨_, rfl⟩))))))), ?_⟩
    have hl : (S t).length = t.length := S_len t
    refine ⟨_, rfl, by show 2 ≤ sizeLine; decide, fun p hp => ⟨p, _, rfl, .inr (SqT.of upd_same), rfl, rfl, _, rfl, ?_⟩⟩
    rw [if_neg Bool.false_ne_true]
    have e0 : inV (.int n) [v_AHEAD, v_BEHIND] = decide (n < 0) := by
      show ((-1 : Int) == n || ((-2 : Int) == n || false)) = _
      rw [Bool.or_false, Bool.eq_iff_iff, Bool.or_eq_true, beq_iff_eq, beq_iff_eq, decide_eq_true_eq]
      omega
    dsimp only
    rw [e0]
    have q := q _ (same_upd (o := .tup [v_AHEAD, v_BEHIND]) hp)
    by_cases h0 : n < 0
    · rw [decide_eq_true h0]
      refine iteT ⟨_, rfl, ?_⟩
      rw [show bNext (ix (zs z)) t n c = n from if_pos h0] at q
      exact q
    · rw [decide_eq_false h0]
      refine iteF ⟨_, rfl, _, rfl, S t, rfl, S_line ht, rfl, _, rfl, ?_⟩
      rw [hl, dec_int]
      by_cases h1 : n = t.length
      · rw [decide_eq_true h1]
        rw [show bNext (ix (zs z)) t n c = -2 by unfold bNext; rw [if_neg h0, if_pos h1]] at q
        exact iteT q
      · rw [decide_eq_false h1]
        obtain ⟨i, rfl⟩ : ∃ i : Nat, n = (i : Int) := ⟨n.toNat, by omega⟩
        have hi : i < t.length := by omega
        have ei : t[i]? = some t[i] := List.getElem?_eq_getElem hi
        refine iteF ⟨_, rfl, _, rfl, _, rfl, S t, _, t[i], rfl, rfl, S_line ht, atS ei, rfl, _, rfl, ?_⟩
        rw [show (⟨#[t[i]]⟩ : Str) = S [t[i]] from rfl, sign_eq]
        have eb : bNext (ix (zs z)) t i c = if t[i]? = some c then (i : Int) + 1 else if ix (zs z) c < ix (zs z) t[i] then -1 else -2 := by
          unfold bNext
          rw [if_neg h0, if_neg h1, Int.toNat_natCast, List.getD_eq_getElem?_getD, ei]
          rfl
        rw [eb, ei] at q
        by_cases e : c = t[i]
        · rw [decide_eq_true e]
          rw [if_pos (by rw [e])] at q
          exact iteT ⟨_, rfl, _, _, rfl, rfl, q⟩
        · rw [decide_eq_false e]
          rw [if_neg (fun h => e (Option.some.inj h).symm)] at q
          refine iteF ⟨_, rfl, ⟨_, rfl⟩, _, rfl, z, S [c], ix (zs z) c, [], rfl, rfl, l8_index z hz c hc, ?_⟩
          refine ⟨_, rfl, ⟨_, rfl⟩, _, rfl, _, rfl, S t, _, t[i], rfl, rfl, S_line ht, atS ei, ?_⟩
          refine ⟨z, S [t[i]], ix (zs z) t[i], [], rfl, rfl, l8_index z hz _ (hd _ (List.getElem_mem hi)), _, _, rfl, rfl, _, rfl, ?_⟩
          by_cases h2 : ix (zs z) c < ix (zs z) t[i]
          · rw [decide_eq_true (by omega)]
            rw [if_pos h2] at q
            exact iteT q
          · rw [decide_eq_false (by omega)]
            rw [if_neg h2] at q
            exact iteF q
end
end K3
set_option Elab.async false
set_option linter.all false
set_option maxRecDepth 100000
set_option maxHeartbeats 4000000
namespace K3
open PySem PySem.Spec PyProof.Rows L2 FX
inductive Cond where
  | eq (b : Bool) (t : List Nat)
  | btw (a b : List Nat)
  | like (t : List Nat)
inductive Stand where
  | m (z : Int)
  | b (x y : Int)
  | l (ps : List Nat)
def condV : Cond → List V
  | .eq b t => [.str (if b = true then "begins" else "equal"), .str (S t)]
  | .btw a b => [.str "between", .str (S a), .str (S b)]
  | .like t => [.str "like", .str (S t)]
def CondOk (zs : List Nat) : Cond → Prop
  | .eq _ t => t.length ≤ 4 ∧ ∀ d ∈ t, d ∈ zs
  | .btw a b => (a.length ≤ 4 ∧ ∀ d ∈ a, d ∈ zs) ∧ (b.length ≤ 4 ∧ ∀ d ∈ b, d ∈ zs)
  | .like t => t.length ≤ 4 ∧ ∀ d ∈ t, d ∈ zs ∨ d = 63 ∨ d = 42
def StandAt (K : PySem.W.Frag) (H : Hp) (v : V) : Stand → Prop
  | .m z => v = .int z
  | .b x y => ∃ t, v = .ref t ∧ SqT K H t [.int x, .int y]
  | .l ps => ∃ t, v = .ref t ∧ SqT K H t (ps.map vN)
theorem StandAt.same {K : PySem.W.Frag} {H H' : Hp} {v : V} {s : Stand} (h : StandAt K H v s) (e : Same H H') : StandAt K H' v s := by
  cases s with
  | m z => exact h
  | b x y => obtain ⟨t, h1, h2⟩ := h; exact ⟨t, h1, SqT.same e h2⟩
  | l ps => obtain ⟨t, h1, h2⟩ := h; exact ⟨t, h1, SqT.same e h2⟩
def StOk : Cond → Stand → Prop
  | .eq _ t, .m z => -1 ≤ z ∧ z ≤ t.length
  | .btw a b, .b x y => (-2 ≤ x ∧ x ≤ a.length) ∧ (-2 ≤ y ∧ y ≤ b.length)
  | .like _, .l ps => ps.length ≤ 1000
  | _, _ => False
def first0 : Cond → Stand
  | .eq _ _ => .m 0
  | .btw _ _ => .b 0 0
  | .like t => .l (skips t [0])
def nextS (r : Nat → Nat) : Cond → Stand → Nat → Stand
  | .eq b t, .m z, c => .m (mNext b t z c)
  | .btw a b, .b x y, c => .b (bNext r a x c) (bNext r b y c)
  | .like t, .l ps, c => .l (nextP t ps c)
  | _, s, _ => s
def metS : Cond → Stand → Bool
  | .eq _ t, .m z => decide (z = t.length)
  | .btw a _, .b x y => decide (x = -2 ∨ x = a.length) && !decide (y = -2)
  | .like t, .l ps => decide (t.length ∈ ps)
  | _, _ => false
def isMet (r : Nat → Nat) : Cond → List Nat → Bool
  | .eq false t, x => decide (x = t)
  | .eq true t, x => decide (x.take t.length = t)
  | .btw a b, x => leR r a x && leR r x b
  | .like t, x => fits t x
theorem skips_len (t ps : List Nat) : (skips t ps).length ≤ t.length + 1 := skipsUp_len t ps (t.length + 1)
theorem first_ok {zs : List Nat} {c : Cond} (h : CondOk zs c) : StOk c (first0 c) := by
  cases c with
  | eq b t => exact ⟨by decide, by omega⟩
  | btw a b => exact ⟨⟨by decide, by omega⟩, ⟨by decide, by omega⟩⟩
  | like t => exact Nat.le_trans (skips_len t [0]) (by have := h.1; omega)
theorem mNext_ok {b : Bool} {t : List Nat} {z : Int} {c : Nat} (h : -1 ≤ z ∧ z ≤ t.length) : -1 ≤ mNext b t z c ∧ mNext b t z c ≤ t.length := by
  unfold mNext
  split
  · exact h
  · split
    · rename_i e
      have := (List.getElem?_eq_some_iff.mp e.2).1
      omega
    · omega
theorem bNext_ok {r : Nat → Nat} {t : List Nat} {z : Int} {c : Nat} (h : -2 ≤ z ∧ z ≤ t.length) : -2 ≤ bNext r t z c ∧ bNext r t z c ≤ t.length := by
  unfold bNext
  split
  · exact h
  · split
    · omega
    · split
      · rename_i e
        have := (List.getElem?_eq_some_iff.mp e).1
        omega
      · split <;> omega
theorem next_ok {zs : List Nat} {r : Nat → Nat} {c : Cond} {s : Stand} {d : Nat} (hc : CondOk zs c) (h : StOk c s) : StOk c (nextS r c s d) := by
  cases c with
  | eq b t => cases s with
    | m z => exact mNext_ok h
    | b x y => exact h
    | l ps => exact h
  | btw a b => cases s with
    | m z => exact h
    | b x y => exact ⟨bNext_ok h.1, bNext_ok h.2⟩
    | l ps => exact h
  | like t => cases s with
    | m z => exact h
    | b x y => exact h
    | l ps => exact Nat.le_trans (skips_len t _) (by have := hc.1; omega)
theorem fold_ok {zs : List Nat} {r : Nat → Nat} {c : Cond} (hc : CondOk zs c) : ∀ (x : List Nat) (s : Stand), StOk c s → StOk c (x.foldl (nextS r c) s)
  | [], _, h => h
  | d :: x, s, h => fold_ok hc x _ (next_ok hc h)
theorem fold_m (r : Nat → Nat) (b : Bool) (t : List Nat) : ∀ (x : List Nat) (z : Int), x.foldl (nextS r (.eq b t)) (.m z) = .m (x.foldl (mNext b t) z)
  | [], _ => rfl
  | d :: x, z => fold_m r b t x _
theorem fold_b (r : Nat → Nat) (a b : List Nat) : ∀ (x : List Nat) (y z : Int), x.foldl (nextS r (.btw a b)) (.b y z) = .b (x.foldl (bNext r a) y) (x.foldl (bNext r b) z)
  | [], _, _ => rfl
  | d :: x, y, z => fold_b r a b x _ _
theorem fold_l (r : Nat → Nat) (t : List Nat) : ∀ (x : List Nat) (ps : List Nat), x.foldl (nextS r (.like t)) (.l ps) = .l (x.foldl (nextP t) ps)
  | [], _ => rfl
  | d :: x, ps => fold_l r t x _
/-- the stand tells whether a text meets -/
theorem met_is {zs : List Nat} {r : Nat → Nat} {c : Cond} {x : List Nat} (hc : CondOk zs c) (hr : ∀ a ∈ zs, ∀ b ∈ zs, r a = r b → a = b) (hs : 42 ∉ zs) (hx : ∀ d ∈ x, d ∈ zs) : metS c (x.foldl (nextS r c) (first0 c)) = isMet r c x := by
  cases c with
  | eq b t =>
    rw [show first0 (.eq b t) = .m ((0 : Nat) : Int) from rfl, fold_m]
    cases b with
    | false =>
      show decide (_ = _) = decide (_ = _)
      rw [decide_eq_decide]
      have := mFold_eq t x 0 (Nat.zero_le _)
      rwa [List.drop_zero] at this
    | true =>
      show decide (_ = _) = decide (_ = _)
      rw [decide_eq_decide]
      have := mFold_begins t x 0 (Nat.zero_le _)
      rwa [List.drop_zero, Nat.sub_zero] at this
  | btw a b =>
    rw [show first0 (.btw a b) = .b ((0 : Nat) : Int) ((0 : Nat) : Int) from rfl, fold_b]
    have h1 := (bFold_le (r := r) (t := a) x 0 (Nat.zero_le _) fun c hcx d hd => hr c (hx c hcx) d (hc.1.2 d hd)).2
    have h2 := (bFold_le (r := r) (t := b) x 0 (Nat.zero_le _) fun c hcx d hd => hr c (hx c hcx) d (hc.2.2 d hd)).1
    rw [List.drop_zero] at h1 h2
    show (decide _ && !decide _) = (leR r a x && leR r x b)
    rw [← h1, ← h2]
    congr 1
    simp
  | like t =>
    rw [show first0 (.like t) = .l (skips t [0]) from rfl, fold_l]
    exact like_fits fun c hcx e => hs (e ▸ hx c hcx)
theorem iteD0 {A B : Prop} {b : Bool} (h : b = false) (q : B) : if b = true then A else B := by rw [h]; exact iteF q
theorem iteD1 {A B : Prop} {b : Bool} (h : b = true) (q : A) : if b = true then A else B := by rw [h]; exact iteT q
section
variable {P : Program} {w : World} {K : PySem.W.Frag} {mg : Str → Option Value} {base : Heap} {A : Ad}
theorem SqT.len {K : PySem.W.Frag} {H : Hp} {a : Addr} {xs : List V} (h : SqT K H a xs) : True := trivial
def sp_first_stand (K : PySem.W.Frag) : Sp := fun vs H Q _ => ∃ (a : Addr) (z : List Nat) (c : Cond), vs = [.ref a] ∧ SqT K H a (condV c) ∧ CondOk z c ∧ ∀ v H', Same H H' → StandAt K H' v (first0 c) → Q v H'
theorem ok_first_stand (T : Txt K mg A) : FnOk P w K mg base CX0 2 A.a_first_stand A.d_first_stand ["condition"] (sp_first_stand K) := by
  refine T.f_first_stand.F.ok sc_first_stand (fun vs H Q E h => ?_) (fun cdv Ar outer s H vs Q E hr h => ?_)
  · obtain ⟨a, z, c, rfl, _⟩ := h
    rfl
  · obtain ⟨a, z, c, rfl, ha, hc, q⟩ := h
    refine ⟨_, (pss_cons (ps_if (pt_cmpR op_eq (pe_ix ix_tup (pv 0) pe_int (fun _ _ => rfl)) pe_str (nomark _)) (pss_one (ps_ret (pe_tup (pa_cons pe_int (pa_cons pe_int pa_nil))))) pss_nil) (pss_cons (ps_if (pt_cmpR op_eq (pe_ix ix_tup (pv 0) pe_int (fun _ _ => rfl)) pe_str (nomark _)) (pss_one (ps_ret (pe_call (ok_with_skips T) (hr.mono (by decide)) (by rfl) T.f_with_skips.g T.f_with_skips.F.kp T.f_with_skips.b .nil pass0 (pa_cons (pe_ix ix_tup (pv 0) pe_int (fun _ _ => rfl)) (pa_cons (pe_lst (pa_cons pe_int pa_nil)) pa_nil))))) pss_nil) (pss_one (ps_ret pe_int)))), ?_⟩
    cases c with
    | eq b t =>
      refine ⟨_, rfl, a, condV (.eq b t), 0, _, rfl, rfl, ha, rfl, rfl, _, rfl, ?_⟩
      refine iteD0 (by cases b <;> decide +kernel) ⟨_, rfl, a, condV (.eq b t), 0, _, rfl, rfl, ha, rfl, rfl, _, rfl, ?_⟩
      exact iteD0 (by cases b <;> decide +kernel) (q _ _ (Same.refl _) rfl)
    | btw b d =>
      refine ⟨_, rfl, a, condV (.btw b d), 0, _, rfl, rfl, ha, rfl, rfl, _, rfl, ?_⟩
      refine iteD1 (by decide +kernel) ⟨by show 2 ≤ sizeLine; decide, fun p hp => ?_⟩
      exact q _ _ (same_upd hp) ⟨p, rfl, SqT.of upd_same⟩
    | like t =>
      refine ⟨_, rfl, a, condV (.like t), 0, _, rfl, rfl, ha, rfl, rfl, _, rfl, ?_⟩
      refine iteD0 (by decide +kernel) ⟨_, rfl, a, condV (.like t), 0, _, rfl, rfl, ha, rfl, rfl, _, rfl, ?_⟩
      refine iteD1 (by decide +kernel) ⟨_, rfl, a, condV (.like t), 1, _, rfl, rfl, ha, rfl, by show 1 ≤ sizeLine; decide, fun l hl => ?_⟩
      exact ⟨t, l, [0], rfl, Nat.le_trans hc.1 (by decide), SqL.of upd_same, fun u H' s' h' => q _ _ ((same_upd hl).trans s') ⟨u, rfl, h'⟩⟩
end
end K3
set_option Elab.async false
set_option linter.all false
set_option maxRecDepth 100000
set_option maxHeartbeats 4000000
namespace K3
open PySem PySem.Spec PyProof.Rows L2 FX
section
variable {P : Program} {w : World} {K : PySem.W.Frag} {mg : Str → Option Value} {base : Heap} {A : Ad}
def sp_next_stand (K : PySem.W.Frag) : Sp := fun vs H Q _ => ∃ (z : Str) (a : Addr) (c : Cond) (v : V) (s : Stand) (d : Nat), vs = [.str z, .ref a, v, .str (S [d])] ∧ z ∈ L8 ∧ SqT K H a (condV c) ∧ CondOk (zs z) c ∧ StandAt K H v s ∧ StOk c s ∧ d ∈ zs z ∧
  ∀ v' H', Same H H' → StandAt K H' v' (nextS (ix (zs z)) c s d) → Q v' H'
theorem ok_next_stand (T : Txt K mg A) : FnOk P w K mg base CX0 3 A.a_next_stand A.d_next_stand ["letters", "condition", "now", "letter"] (sp_next_stand K) := by
  refine T.f_next_stand.F.ok sc_next_stand (fun vs H Q E h => ?_) (fun cdv Ar outer s H vs Q E hr h => ?_)
  · obtain ⟨z, a, c, v, s, d, rfl, _⟩ := h
    rfl
  · obtain ⟨z, a, c, v, s, d, rfl, hz, ha, hc, hv, hs, hd, q⟩ := h
    refine ⟨_, (pss_cons (ps_if (pt_cmpR op_eq (pe_ix ix_tup (pv 1) pe_int (fun _ _ => rfl)) pe_str (nomark _)) (pss_cons (ps_asg (pv 2) (pg_tup (by rfl) (pgs_cons (pg_name (i := 4) sc_next_stand.nd rfl (Or.inl rfl)) (pgs_cons (pg_name (i := 5) sc_next_stand.nd rfl (Or.inl rfl)) pgs_nil)))) (pss_one (ps_ret (pe_tup (pa_cons (pe_call (ok_next_beside T) (hr.mono (by decide)) (by rfl) T.f_next_beside.g T.f_next_beside.F.kp T.f_next_beside.b .nil pass0 (pa_cons (pv 0) (pa_cons (pe_ix ix_tup (pv 1) pe_int (fun _ _ => rfl)) (pa_cons (pv 4) (pa_cons (pv 3) pa_nil))))) (pa_cons (pe_call (ok_next_beside T) (hr.mono (by decide)) (by rfl) T.f_next_beside.g T.f_next_beside.F.kp T.f_next_beside.b .nil pass0 (pa_cons (pv 0) (pa_cons (pe_ix ix_tup (pv 1) pe_int (fun _ _ => rfl)) (pa_cons (pv 5) (pa_cons (pv 3) pa_nil))))) pa_nil)))))) pss_nil) (pss_cons (ps_if (pt_cmpR op_eq (pe_ix ix_tup (pv 1) pe_int (fun _ _ => rfl)) pe_str (nomark _)) (pss_one (ps_ret (pe_call (ok_next_places T) (hr.mono (by decide)) (by rfl) T.f_next_places.g T.f_next_places.F.kp T.f_next_places.b .nil pass0 (pa_cons (pe_ix ix_tup (pv 1) pe_int (fun _ _ => rfl)) (pa_cons (pv 2) (pa_cons (pv 3) pa_nil)))))) pss_nil) (pss_one (ps_ret (pe_call (ok_next_matched T) (hr.mono (by decide)) (by rfl) T.f_next_matched.g T.f_next_matched.F.kp T.f_next_matched.b .nil pass0 (pa_cons (pv 1) (pa_cons (pv 2) (pa_cons (pv 3) pa_nil)))))))), ?_⟩
    cases c with
    | eq b t =>
      cases s with
      | b x y => exact hs.elim
      | l ps => exact hs.elim
      | m n =>
        obtain rfl := hv
        refine ⟨_, rfl, a, condV (.eq b t), 0, _, rfl, rfl, ha, rfl, rfl, _, rfl, ?_⟩
        refine iteD0 (by cases b <;> decide +kernel) ⟨_, rfl, a, condV (.eq b t), 0, _, rfl, rfl, ha, rfl, rfl, _, rfl, ?_⟩
        exact iteD0 (by cases b <;> decide +kernel) ⟨_, rfl, _, rfl, _, rfl, a, b, t, n, d, rfl, ha, Nat.le_trans hc.1 (by decide), hs.1, hs.2, q _ _ (Same.refl _) rfl⟩
    | btw b e =>
      cases s with
      | m n => exact hs.elim
      | l ps => exact hs.elim
      | b x y =>
        obtain ⟨p, rfl, hp⟩ := hv
        refine ⟨_, rfl, a, condV (.btw b e), 0, _, rfl, rfl, ha, rfl, rfl, _, rfl, ?_⟩
        refine iteD1 (by decide +kernel) ⟨_, rfl, p, _, rfl, hp, rfl, _, _, rfl, _, _, rfl, rfl, ?_⟩
        refine ⟨_, rfl, _, rfl, a, condV (.btw b e), 1, _, rfl, rfl, ha, rfl, _, rfl, _, rfl, ?_⟩
        refine ⟨z, b, x, d, rfl, hz, hd, hc.1.2, Nat.le_trans hc.1.1 (by decide), hs.1.1, hs.1.2, fun H1 s1 => ?_⟩
        refine ⟨_, rfl, _, rfl, a, condV (.btw b e), 2, _, rfl, rfl, SqT.same s1 ha, rfl, _, rfl, _, rfl, ?_⟩
        refine ⟨z, e, y, d, rfl, hz, hd, hc.2.2, Nat.le_trans hc.2.1 (by decide), hs.2.1, hs.2.2, fun H2 s2 => ?_⟩
        refine ⟨by show 2 ≤ sizeLine; decide, fun r hr => q _ _ ((s1.trans s2).trans (same_upd hr)) ⟨r, rfl, SqT.of upd_same⟩⟩
    | like t =>
      cases s with
      | m n => exact hs.elim
      | b x y => exact hs.elim
      | l ps =>
        obtain ⟨p, rfl, hp⟩ := hv
        refine ⟨_, rfl, a, condV (.like t), 0, _, rfl, rfl, ha, rfl, rfl, _, rfl, ?_⟩
        refine iteD0 (by decide +kernel) ⟨_, rfl, a, condV (.like t), 0, _, rfl, rfl, ha, rfl, rfl, _, rfl, ?_⟩
        refine iteD1 (by decide +kernel) ⟨_, rfl, a, condV (.like t), 1, _, rfl, rfl, ha, rfl, _, rfl, _, rfl, ?_⟩
        exact ⟨t, p, ps, d, rfl, Nat.le_trans hc.1 (by decide), hs, hp, fun u H' s' h' => q _ _ s' ⟨u, rfl, h'⟩⟩
def sp_is_met (K : PySem.W.Frag) : Sp := fun vs H Q _ => ∃ (a : Addr) (z : List Nat) (c : Cond) (v : V) (s : Stand), vs = [.ref a, v] ∧ SqT K H a (condV c) ∧ CondOk z c ∧ StandAt K H v s ∧ StOk c s ∧ ∀ H', Same H H' → Q (.bl (metS c s)) H'
theorem in2 (x y z : Int) : inV (.int x) [.int y, .int z] = decide (x = y ∨ x = z) := by
  show ((y : Int) == x || ((z : Int) == x || false)) = _
  rw [Bool.or_false, Bool.eq_iff_iff, Bool.or_eq_true, beq_iff_eq, beq_iff_eq, decide_eq_true_eq]
  exact or_congr ⟨Eq.symm, Eq.symm⟩ ⟨Eq.symm, Eq.symm⟩
theorem ok_is_met (T : Txt K mg A) : FnOk P w K mg base CX0 1 A.a_is_met A.d_is_met ["condition", "now"] (sp_is_met K) := by
  refine T.f_is_met.F.ok sc_is_met (fun vs H Q E h => ?_) (fun cdv Ar outer s H vs Q E hr h => ?_)
  · obtain ⟨a, z, c, v, s, rfl, _⟩ := h
    rfl
  · obtain ⟨a, z, c, v, s, rfl, ha, hc, hv, hs, q⟩ := h
    refine ⟨_, (pss_cons (ps_if (pt_cmpR op_eq (pe_ix ix_tup (pv 0) pe_int (fun _ _ => rfl)) pe_str (nomark _)) (pss_cons (ps_asg (pv 1) (pg_tup (by rfl) (pgs_cons (pg_name (i := 2) sc_is_met.nd rfl (Or.inl rfl)) (pgs_cons (pg_name (i := 3) sc_is_met.nd rfl (Or.inl rfl)) pgs_nil)))) (pss_one (ps_ret (pe_and (pe_cmpR op_in_seq (pv 2) (pe_tup (pa_cons (pe_glob (v := v_BEHIND) rfl T.c_BEHIND ⟨_, rfl⟩) (pa_cons (pe_callB call_len_str (by rfl) T.n_len (by decide +kernel) (pa_cons (pe_ix ix_tup (pv 0) pe_int (fun _ _ => rfl)) pa_nil)) pa_nil))) (by rfl)) (pe_one (pe_cmpR op_ne (pv 3) (pe_glob (v := v_BEHIND) rfl T.c_BEHIND ⟨_, rfl⟩) (nomark _))))))) pss_nil) (pss_cons (ps_if (pt_cmpR op_eq (pe_ix ix_tup (pv 0) pe_int (fun _ _ => rfl)) pe_str (nomark _)) (pss_one (ps_ret (pe_cmpR op_in_seq (pe_callB call_len_str (by rfl) T.n_len (by decide +kernel) (pa_cons (pe_ix ix_tup (pv 0) pe_int (fun _ _ => rfl)) pa_nil)) (pv 1) (by rfl)))) pss_nil) (pss_one (ps_ret (pe_cmpR op_eq (pv 1) (pe_callB call_len_str (by rfl) T.n_len (by decide +kernel) (pa_cons (pe_ix ix_tup (pv 0) pe_int (fun _ _ => rfl)) pa_nil)) (nomark _)))))), ?_⟩
    cases c with
    | eq b t =>
      cases s with
      | b x y => exact hs.elim
      | l ps => exact hs.elim
      | m n =>
        obtain rfl := hv
        refine ⟨_, rfl, a, condV (.eq b t), 0, _, rfl, rfl, ha, rfl, rfl, _, rfl, ?_⟩
        refine iteD0 (by cases b <;> decide +kernel) ⟨_, rfl, a, condV (.eq b t), 0, _, rfl, rfl, ha, rfl, rfl, _, rfl, ?_⟩
        refine iteD0 (by cases b <;> decide +kernel) ⟨_, rfl, _, rfl, a, condV (.eq b t), 1, _, rfl, rfl, ha, rfl, S t, rfl, S_line (Nat.le_trans hc.1 (by decide)), rfl, ?_⟩
        rw [S_len, dec_int]
        exact q _ (Same.refl _)
    | btw b e =>
      cases s with
      | m n => exact hs.elim
      | l ps => exact hs.elim
      | b x y =>
        obtain ⟨p, rfl, hp⟩ := hv
        refine ⟨_, rfl, a, condV (.btw b e), 0, _, rfl, rfl, ha, rfl, rfl, _, rfl, ?_⟩
        refine iteD1 (by decide +kernel) ⟨_, rfl, p, _, rfl, hp, rfl, _, _, rfl, _, _, rfl, rfl, ?_⟩
        refine ⟨_, rfl, _, rfl, a, condV (.btw b e), 1, _, rfl, rfl, ha, rfl, S b, rfl, S_line (Nat.le_trans hc.1.1 (by decide)), by show 2 ≤ sizeLine; decide, fun r hr => ⟨r, _, rfl, .inr (SqT.of upd_same), rfl, rfl, _, rfl, ?_⟩⟩
        dsimp only
        rw [if_neg Bool.false_ne_true, in2, S_len]
        have q := q _ (same_upd (o := .tup [v_BEHIND, .int ((S b).length : Int)]) hr)
        rw [S_len] at q
        rw [show metS (.btw b e) (.b x y) = (decide (x = -2 ∨ x = b.length) && !decide (y = -2)) from rfl] at q
        cases h : decide (x = -2 ∨ x = b.length) with
        | true =>
          rw [h, Bool.true_and] at q
          refine iteT ⟨_, rfl, rfl, ?_⟩
          rw [dec_int]
          exact q
        | false =>
          rw [h, Bool.false_and] at q
          exact iteF q
    | like t =>
      cases s with
      | m n => exact hs.elim
      | b x y => exact hs.elim
      | l ps =>
        obtain ⟨p, rfl, hp⟩ := hv
        refine ⟨_, rfl, a, condV (.like t), 0, _, rfl, rfl, ha, rfl, rfl, _, rfl, ?_⟩
        refine iteD0 (by decide +kernel) ⟨_, rfl, a, condV (.like t), 0, _, rfl, rfl, ha, rfl, rfl, _, rfl, ?_⟩
        refine iteD1 (by decide +kernel) ⟨_, rfl, a, condV (.like t), 1, _, rfl, rfl, ha, rfl, S t, rfl, S_line (Nat.le_trans hc.1 (by decide)), _, rfl, p, _, rfl, .inr hp, rfl, flat_nats _, ?_⟩
        dsimp only
        rw [if_neg Bool.false_ne_true, S_len, inV_mem]
        exact q _ (Same.refl _)
end
end K3
set_option Elab.async false
set_option linter.all false
set_option maxRecDepth 100000
set_option maxHeartbeats 4000000
namespace K3
open PySem PySem.Spec PyProof.Rows L2 FX
def kinds : List Str := ["equal", "begins", "between", "like"]
def le4 : PyData → Bool
  | .str x => decide (x.length ≤ 4)
  | _ => false
def signsOf (z k : Str) : Str := if k = "like" then z ++ Str.ofString "?*" else z
def condTs (z k : Str) (ts : List PyData) : Bool := decide (k ∈ kinds) && (decide (ts.length = if k = "between" then 2 else 1) && ts.all fun d => isValD (signsOf z k) d && le4 d)
def condB (z : Str) : PyData → Bool
  | .tuple (.str k :: ts) => condTs z k ts
  | _ => false
theorem cond_no {z : Str} {ds : List PyData} (h : ¬ (2 ≤ ds.length ∧ ds.length ≤ 3)) : condB z (.tuple ds) = false := by
  cases ds with
  | nil => rfl
  | cons d ts =>
    cases d with
    | str k =>
      show condTs z k ts = false
      unfold condTs
      rw [show decide (ts.length = if k = "between" then 2 else 1) = false from decide_eq_false (by rw [List.length_cons] at h; split <;> omega), Bool.false_and, Bool.and_false]
    | _ => rfl
theorem atI_zero {v : V} {xs : List V} : atI (v :: xs) 0 = some v := atI_nat (xs := v :: xs) (j := 0) rfl
theorem str_dec (a b : Str) : decide (V.str a = V.str b) = decide (a = b) := decide_eq_decide.mpr ⟨fun h => V.str.inj h, fun h => by rw [h]⟩
theorem sIx_one (n : Nat) : HT.sIx (n + 1) 0 (some 1) = 1 := by
  have := HT.sIx_nat (n + 1) 0 1
  rw [show ((1 : Nat) : Int) = 1 from rfl] at this
  rw [this]
  omega
theorem cut_tail (v : V) (xs : List V) : cutV (v :: xs) (some 1) none = xs := by
  unfold cutV
  rw [List.length_cons, sIx_one, HT.sIx_none]
  simp
def smallC : PyData → Prop
  | .tuple ds => ds.length ≤ 100 ∧ ∀ d ∈ ds, small d
  | _ => True
section
variable {P : Program} {w : World} {K : PySem.W.Frag} {mg : Str → Option Value} {base : Heap} {A : Ad}
theorem kinds_seq (T : Txt K mg A) (H : Hp) : SqT K H A.t_KINDS [V.str "equal", V.str "begins", V.str "between", V.str "like"] := .inr T.q_KINDS
theorem kinds_in (k : Str) : inV (.str k) [V.str "equal", V.str "begins", V.str "between", V.str "like"] = decide (k ∈ kinds) := by
  show (("equal" : Str) == k || (("begins" : Str) == k || (("between" : Str) == k || (("like" : Str) == k || false)))) = _
  rw [Bool.eq_iff_iff]
  simp only [Bool.or_eq_true, beq_iff_eq, decide_eq_true_eq, Bool.or_false, kinds, List.mem_cons, List.not_mem_nil, or_false]
  exact or_congr ⟨Eq.symm, Eq.symm⟩ (or_congr ⟨Eq.symm, Eq.symm⟩ (or_congr ⟨Eq.symm, Eq.symm⟩ ⟨Eq.symm, Eq.symm⟩))
def sp_is_condition_on (K : PySem.W.Frag) : Sp := fun vs H Q _ => ∃ (z : Str) (v : V) (d : PyData), vs = [.str z, v] ∧ z.length ≤ 100 ∧ Dp K H v d ∧ smallC d ∧ ∀ H', Same H H' → Q (.bl (condB z d)) H'
theorem ok_is_condition_on (T : Txt K mg A) : FnOk P w K mg base CX0 2 A.a_is_condition_on A.d_is_condition_on ["letters", "thing"] (sp_is_condition_on K) := by
  refine T.f_is_condition_on.F.ok sc_is_condition_on (fun vs H Q E h => ?_) (fun cdv Ar outer s H vs Q E hr h => ?_)
  · obtain ⟨z, v, d, rfl, _⟩ := h
    rfl
  · obtain ⟨z, v, d, rfl, hz, hd, hs, q⟩ := h
    refine ⟨_, (pss_cons (ps_if (PW.pt (pw_or (pt_not (pt_val (pe_callB call_isi (by rfl) T.n_isinstance (by decide +kernel) (pa_cons (pv 1) (pa_cons (pe_bltn (v := .ty "tuple") (by rfl) T.n_tuple (by decide +kernel) rfl) pa_nil))))) (pw_or1 (pt_not (pt_chain op_le op_le pe_int (pe_callB call_len_seq (by rfl) T.n_len (by decide +kernel) (pa_cons (pv 1) pa_nil)) pe_int))))) (pss_one (ps_ret pe_bl)) pss_nil) (pss_cons (ps_set (i := 2) sc_is_condition_on.nd rfl (Or.inl rfl) (pe_ix ix_tup (pv 1) pe_int (fun _ _ => rfl))) (pss_cons (ps_if (PW.pt (pw_or (pt_not (pt_val (pe_callB call_isi (by rfl) T.n_isinstance (by decide +kernel) (pa_cons (pv 2) (pa_cons (pe_bltn (v := .ty "str") (by rfl) T.n_str (by decide +kernel) rfl) pa_nil))))) (pw_or1 (pt_cmpR op_notIn_seq (pv 2) (pe_glob (v := .ref A.t_KINDS) rfl T.c_KINDS rfl) (by rfl))))) (pss_one (ps_ret pe_bl)) pss_nil) (pss_cons (ps_if (pt_cmpR op_ne (pe_callB call_len_seq (by rfl) T.n_len (by decide +kernel) (pa_cons (pv 1) pa_nil)) (pe_ifExp (pt_cmpR op_eq (pv 2) pe_str (nomark _)) pe_int pe_int) (nomark _)) (pss_one (ps_ret pe_bl)) pss_nil) (pss_cons (ps_set (i := 3) sc_is_condition_on.nd rfl (Or.inr rfl) (pe_ifExp (pt_cmpR op_eq (pv 2) pe_str (nomark _)) (pe_op op_add_str (pv 0) pe_str) (pv 0))) (pss_one (ps_ret (pe_callB (cr_all rfl) (by rfl) T.n_all (by decide +kernel) (pa_cons (pe_lc (own := [("text", 4)]) (g := (gName 4)) (tt := tYes) (by rfl) sc_is_condition_on.nd (pi_tup (pe_slice sl_tupA (pv 1) (po_some pe_int) po_none)) (blkOk_by (own := [("text", 4)]) (N := ["letters", "thing", "kind", "signs", "text"]) (sc := defScope s_is_condition_on) (by decide +kernel)) (fun _ _ _ _ _ => (pg_name (i := 4) sc_is_condition_on.nd rfl (Or.inl rfl))) (fun _ _ _ _ _ => pts_nil) (fun _ _ _ _ _ => by exact (pe_and (pe_call (ok_is_value T) (hr.mono (by decide)) (by rfl) T.f_is_value.g T.f_is_value.F.kp T.f_is_value.b .nil pass0 (pa_cons (pv 3) (pa_cons (pv 4) pa_nil))) (pe_one (pe_cmpR op_le (pe_callB call_len_str (by rfl) T.n_len (by decide +kernel) (pa_cons (pv 4) pa_nil)) (pe_glob (v := v_MOST_SIGNS) rfl T.c_MOST_SIGNS ⟨_, rfl⟩) (nomark _)))))) pa_nil))))))))), ?_⟩
    obtain ⟨t, h1, h2⟩ := Dp.isB hd (c := "tuple") (by decide)
    refine ⟨_, rfl, _, _, t, _, _, rfl, .ty _, h1, h2, _, rfl, ?_⟩
    cases hd with
    | tup hq ha =>
      rename_i a xs ds
      have hl := DpAll.len ha
      have hlz : xs.length = ds.length := hl
      refine iteF ⟨_, rfl, a, xs, rfl, .inr hq, _, _, rfl, rfl, _, rfl, ?_⟩
      by_cases n2 : 2 ≤ ds.length
      · rw [show decide ((2 : Int) ≤ (xs.length : Int)) = true from decide_eq_true (by omega)]
        refine iteT ⟨_, _, rfl, rfl, _, rfl, ?_⟩
        by_cases n3 : ds.length ≤ 3
        · rw [show decide ((xs.length : Int) ≤ 3) = true from decide_eq_true (by omega)]
          refine iteF ?_
          cases ha with
          | nil => exact absurd n2 (by simp)
          | @cons v0 xs' d0 ds' h0 h' =>
          refine ⟨_, rfl, a, v0 :: xs', 0, v0, rfl, rfl, hq, atI_zero, ?_⟩
          obtain ⟨t0, g1, g2⟩ := Dp.isB h0 (c := "str") (by decide)
          refine ⟨_, rfl, _, _, t0, _, _, rfl, .ty _, g1, g2, _, rfl, ?_⟩
          cases h0 with
          | str k =>
            refine iteF ⟨_, rfl, A.t_KINDS, _, rfl, .inr (kinds_seq T H), rfl, rfl, _, rfl, ?_⟩
            dsimp only
            rw [if_pos rfl, kinds_in]
            have ec : condB z (.tuple (.str k :: ds')) = condTs z k ds' := rfl
            rw [ec] at q
            cases hk : decide (k ∈ kinds) with
            | false => exact iteT (by have := q _ (Same.refl _); rwa [show condTs z k ds' = false by unfold condTs; rw [hk, Bool.false_and]] at this)
            | true =>
              refine iteF ?_
              unfold tNext
              dsimp only
              refine seq_cut (fun σ1 H1 => σ1 = [some (.str z), some (.ref a), some (.str k), none, none] ∧ H1 = H ∧ ds'.length = if k = "between" then 2 else 1) ?_ ?_
              · rintro _ H ⟨rfl, rfl, hn⟩
                refine seq_cut (fun σ1 H1 => σ1 = [some (.str z), some (.ref a), some (.str k), some (.str (signsOf z k)), none] ∧ H1 = H) ?_ ?_
                · rintro _ H ⟨rfl, rfl⟩
                  refine ⟨_, rfl, _, rfl, a, _, rfl, hq, fun h => absurd h.1 (by rw [List.length_cons, sIx_one]; decide), fun _ p hp => ⟨p, rfl, ⟨_, SqT.of upd_same⟩, fun D hD => ?_⟩⟩
                  rw [cut_tail] at *
                  have hlx : xs'.length = ds'.length := by simpa using hlz
                  have h2 := DpAll.same (same_upd (o := .tup xs') hp) h'
                  refine lc_rel (walk_tup (xs := xs')) (fun j v _ => ∃ d, ds'[j]? = some d ∧ v = .bl (isValD (signsOf z k) d && le4 d)) (fun _ _ _ _ _ h => h) hD (Nat.lt_of_le_of_lt (show xs'.length ≤ 3 by rw [List.length_cons] at n3; omega) (by decide)) (fun H' s' => SqT.same s' (SqT.of upd_same)) ?_ ?_
                  · rintro i y H1 H2 hi sm ⟨o, hd⟩ ⟨rfl, hy⟩ kk
                    obtain ⟨d, hd1, hd2⟩ := DpAll.get' h2 hy
                    refine ⟨rfl, ?_⟩
                    unfold tYes
                    have hsd : small d := hs.2 d (List.mem_cons_of_mem _ (List.mem_of_getElem? hd1))
                    refine iteT ⟨_, rfl, _, rfl, signsOf z k, y, d, rfl, Dp.same sm hd2, hsd, fun H3 s3 => ⟨_, rfl, ?_⟩⟩
                    cases hv : isValD (signsOf z k) d with
                    | false => exact iteF (kk _ _ s3 ⟨d, hd1, by rw [hv]; rfl⟩)
                    | true =>
                      cases d with
                      | str x =>
                        obtain rfl := Dp.strOf hd2
                        refine iteT ⟨_, rfl, x, rfl, Nat.le_trans (show x.length ≤ 100000 from hsd) (by decide), _, _, rfl, rfl, kk _ _ s3 ⟨_, hd1, ?_⟩⟩
                        rw [hv, Bool.true_and]
                        show V.bl (decide ((x.length : Int) ≤ 4)) = V.bl (decide (x.length ≤ 4))
                        congr 1
                        rw [Bool.eq_iff_iff, decide_eq_true_eq, decide_eq_true_eq]
                        omega
                      | _ => cases hv
                  · intro H1 ys sm hx1 hn1 hv
                    have e1 : ys = (ds'.map fun d => isValD (signsOf z k) d && le4 d).map V.bl := by
                      refine List.ext_getElem? fun j => ?_
                      rw [List.map_map, List.getElem?_map]
                      cases e : ys[j]? with
                      | none =>
                        have q1 : ys.length ≤ j := List.getElem?_eq_none_iff.mp e
                        rw [List.getElem?_eq_none (by omega)]
                        rfl
                      | some v =>
                        obtain ⟨d, h1, h2⟩ := hv j v e
                        rw [h1, h2]
                        rfl
                    refine ⟨D, _, rfl, .inl (.inl (by rw [hx1, e1])), ?_⟩
                    have e2 : (ds'.map fun d => isValD (signsOf z k) d && le4 d).all id = condTs z k ds' := by
                      unfold condTs
                      rw [hk, decide_eq_true hn, List.all_map]
                      rfl
                    rw [e2]
                    exact q _ ((same_upd hp).trans sm)
                · intro nx' kk
                  refine ⟨_, rfl, rfl, _, rfl, ?_⟩
                  rw [str_dec]
                  by_cases kl : k = "like"
                  · rw [decide_eq_true kl]
                    refine iteT ⟨_, rfl, z, _, rfl, rfl, ?_, kk _ _ ⟨?_, rfl⟩⟩
                    · exact Nat.le_trans (Nat.add_le_add_right hz 2) (by decide)
                    · unfold signsOf
                      rw [if_pos kl]
                      rfl
                  · rw [decide_eq_false kl]
                    refine iteF ⟨_, rfl, kk _ _ ⟨?_, rfl⟩⟩
                    unfold signsOf
                    rw [if_neg kl]
                    rfl
              · intro nx' kk
                refine ⟨_, rfl, a, _, rfl, .inr hq, _, rfl, rfl, _, rfl, ?_⟩
                rw [str_dec]
                have hlx : xs'.length = ds'.length := by simpa using hlz
                have bad : ds'.length ≠ (if k = "between" then 2 else 1) → Q (.bl false) H := fun h => by
                  have := q _ (Same.refl _)
                  rwa [show condTs z k ds' = false by unfold condTs; rw [hk, decide_eq_false h]; rfl] at this
                by_cases kb : k = "between"
                · rw [if_pos kb] at bad
                  rw [decide_eq_true kb]
                  refine iteT ⟨rfl, _, rfl, ?_⟩
                  rw [dec_int, List.length_cons, hlx]
                  by_cases e : ds'.length = 2
                  · rw [show (!decide (((ds'.length + 1 : Nat) : Int) = 3)) = false by rw [e]; rfl]
                    exact iteF (kk _ _ ⟨rfl, rfl, by rw [if_pos kb]; exact e⟩)
                  · rw [show (!decide (((ds'.length + 1 : Nat) : Int) = 3)) = true by rw [decide_eq_false (by omega)]; rfl]
                    exact iteT (bad e)
                · rw [if_neg kb] at bad
                  rw [decide_eq_false kb]
                  refine iteF ⟨rfl, _, rfl, ?_⟩
                  rw [dec_int, List.length_cons, hlx]
                  by_cases e : ds'.length = 1
                  · rw [show (!decide (((ds'.length + 1 : Nat) : Int) = 2)) = false by rw [e]; rfl]
                    exact iteF (kk _ _ ⟨rfl, rfl, by rw [if_neg kb]; exact e⟩)
                  · rw [show (!decide (((ds'.length + 1 : Nat) : Int) = 2)) = true by rw [decide_eq_false (by omega)]; rfl]
                    exact iteT (bad e)
          | non => exact iteT (q _ (Same.refl _))
          | bl b => exact iteT (q _ (Same.refl _))
          | int i => exact iteT (q _ (Same.refl _))
          | lst hs ha => exact iteT (q _ (Same.refl _))
          | tup hs ha => exact iteT (q _ (Same.refl _))
        · rw [show decide ((xs.length : Int) ≤ 3) = false from decide_eq_false (by omega)]
          exact iteT (by have := q _ (Same.refl _); rwa [cond_no (fun h => n3 h.2)] at this)
      · rw [show decide ((2 : Int) ≤ (xs.length : Int)) = false from decide_eq_false (by omega)]
        exact iteF ⟨_, rfl, iteT (by have := q _ (Same.refl _); rwa [cond_no (fun h => n2 h.1)] at this)⟩
    | str x => exact iteT (q _ (Same.refl _))
    | non => exact iteT (q _ (Same.refl _))
    | bl b => exact iteT (q _ (Same.refl _))
    | int i => exact iteT (q _ (Same.refl _))
    | lst hs ha => exact iteT (q _ (Same.refl _))
end
end K3
set_option Elab.async false
set_option linter.all false
set_option maxRecDepth 100000
set_option maxHeartbeats 4000000
namespace K3
open PySem PySem.Spec PyProof.Rows L2 FX
def condD : Cond → PyData
  | .eq b t => .tuple [.str (if b = true then "begins" else "equal"), .str (S t)]
  | .btw a b => .tuple [.str "between", .str (S a), .str (S b)]
  | .like t => .tuple [.str "like", .str (S t)]
theorem cond_dp {K : PySem.W.Frag} {H : Hp} {a : Addr} {c : Cond} (h : SqT K H a (condV c)) : Dp K H (.ref a) (condD c) := by
  cases c with
  | eq b t => exact .tup h (.cons (.str _) (.cons (.str _) .nil))
  | btw a b => exact .tup h (.cons (.str _) (.cons (.str _) (.cons (.str _) .nil)))
  | like t => exact .tup h (.cons (.str _) (.cons (.str _) .nil))
theorem text_ok {g : Str} {t : List Nat} (h1 : t.length ≤ 4) (h2 : ∀ d ∈ t, d ∈ zs g) : (isValD g (.str (S t)) && le4 (.str (S t))) = true := by
  rw [isVal_of (by rw [zs_S]; exact h2), Bool.true_and]
  exact decide_eq_true (by rw [S_len]; exact h1)
theorem cond_small {zs : List Nat} {c : Cond} (h : CondOk zs c) : smallC (condD c) := by
  have s4 : ∀ {t : List Nat}, t.length ≤ 4 → small (.str (S t)) := fun h => by show (S _).length ≤ 100000; rw [S_len]; omega
  have kk : ∀ k ∈ kinds, small (.str k) := by
    intro k hk
    simp only [kinds, List.mem_cons, List.not_mem_nil, or_false] at hk
    show k.length ≤ 100000
    rcases hk with rfl | rfl | rfl | rfl <;> decide +kernel
  cases c with
  | eq b t =>
    refine ⟨by simp, fun d hd => ?_⟩
    rcases List.mem_cons.mp hd with rfl | hd
    · cases b
      · exact kk _ (by simp [kinds])
      · exact kk _ (by simp [kinds])
    · obtain rfl := List.mem_singleton.mp hd
      exact s4 h.1
  | btw a b =>
    refine ⟨by simp, fun d hd => ?_⟩
    rcases List.mem_cons.mp hd with rfl | hd
    · exact kk _ (by simp [kinds])
    · rcases List.mem_cons.mp hd with rfl | hd
      · exact s4 h.1.1
      · obtain rfl := List.mem_singleton.mp hd
        exact s4 h.2.1
  | like t =>
    refine ⟨by simp, fun d hd => ?_⟩
    rcases List.mem_cons.mp hd with rfl | hd
    · exact kk _ (by simp [kinds])
    · obtain rfl := List.mem_singleton.mp hd
      exact s4 h.1
theorem cond_true {z : Str} {c : Cond} (h : CondOk (zs z) c) : condB z (condD c) = true := by
  cases c with
  | eq b t =>
    have e : signsOf z (if b = true then "begins" else "equal") = z := by cases b <;> exact if_neg (by decide +kernel)
    show condTs z (if b = true then "begins" else "equal") [.str (S t)] = true
    unfold condTs
    rw [e, show decide ((if b = true then ("begins" : Str) else "equal") ∈ kinds) = true by cases b <;> decide +kernel, Bool.true_and,
      show decide ([PyData.str (S t)].length = if (if b = true then ("begins" : Str) else "equal") = "between" then 2 else 1) = true by show decide ((1 : Nat) = if (if b = true then ("begins" : Str) else "equal") = "between" then 2 else 1) = true; cases b <;> decide +kernel, Bool.true_and, List.all_cons, List.all_nil, Bool.and_true]
    exact text_ok h.1 h.2
  | btw a b =>
    have e : signsOf z "between" = z := if_neg (by decide +kernel)
    show condTs z "between" [.str (S a), .str (S b)] = true
    unfold condTs
    rw [e, show decide (("between" : Str) ∈ kinds) = true by decide +kernel, Bool.true_and,
      show decide ([PyData.str (S a), PyData.str (S b)].length = if ("between" : Str) = "between" then 2 else 1) = true by show decide ((2 : Nat) = if ("between" : Str) = "between" then 2 else 1) = true; decide +kernel, Bool.true_and, List.all_cons, List.all_cons, List.all_nil, Bool.and_true]
    rw [text_ok h.1.1 h.1.2, text_ok h.2.1 h.2.2]
    rfl
  | like t =>
    have e : signsOf z "like" = z ++ Str.ofString "?*" := if_pos rfl
    show condTs z "like" [.str (S t)] = true
    unfold condTs
    rw [e, show decide (("like" : Str) ∈ kinds) = true by decide +kernel, Bool.true_and,
      show decide ([PyData.str (S t)].length = if ("like" : Str) = "between" then 2 else 1) = true by show decide ((1 : Nat) = if ("like" : Str) = "between" then 2 else 1) = true; decide +kernel, Bool.true_and, List.all_cons, List.all_nil, Bool.and_true]
    refine text_ok h.1 fun d hd => ?_
    have ez : zs (z ++ Str.ofString "?*") = zs z ++ [63, 42] := by
      show (z.cps ++ (Str.ofString "?*").cps).toList = _
      rw [Array.toList_append]
      rfl
    rw [ez, List.mem_append]
    rcases h.2 d hd with h | rfl | rfl
    · exact .inl h
    · exact .inr (by simp)
    · exact .inr (by simp)
section
variable {P : Program} {w : World} {K : PySem.W.Frag} {mg : Str → Option Value} {base : Heap} {A : Ad}
def sp_check_condition (K : PySem.W.Frag) : Sp := fun vs H Q _ => ∃ (z : Str) (a : Addr) (c : Cond), vs = [.str z, .ref a] ∧ z ∈ L8 ∧ SqT K H a (condV c) ∧ CondOk (zs z) c ∧ ∀ H', Same H H' → Q .non H'
theorem ok_check_condition (T : Txt K mg A) : FnOk P w K mg base CX0 3 A.a_check_condition A.d_check_condition ["letters", "condition"] (sp_check_condition K) := by
  refine T.f_check_condition.F.ok sc_check_condition (fun vs H Q E h => ?_) (fun cdv Ar outer s H vs Q E hr h => ?_)
  · obtain ⟨z, a, c, rfl, _⟩ := h
    rfl
  · obtain ⟨z, a, c, rfl, hz, ha, hc, q⟩ := h
    refine ⟨_, (pss_one (ps_if (pt_not (pt_val (pe_call (ok_is_condition_on T) (hr.mono (by decide)) (by rfl) T.f_is_condition_on.g T.f_is_condition_on.F.kp T.f_is_condition_on.b .nil pass0 (pa_cons (pv 0) (pa_cons (pv 1) pa_nil))))) (pss_one (ps_never)) pss_nil)), ?_⟩
    refine ⟨_, rfl, _, rfl, z, _, condD c, rfl, l8_le hz, cond_dp ha, cond_small hc, fun H1 s1 => ⟨_, rfl, ?_⟩⟩
    rw [cond_true hc]
    exact iteF (q _ s1)
def sp_is_condition (K : PySem.W.Frag) (C : Addr) : Sp := fun vs H Q _ => ∃ (p : Addr) (z : Str) (R : Rows) (v : V) (d : PyData), vs = [.ref p, v] ∧ IsM K C H p z R ∧ Dp K H v d ∧ smallC d ∧ ∀ H', Same H H' → Q (.bl (condB z d)) H'
theorem ok_is_condition (T : Txt K mg A) : FnOk P w K mg base CX0 3 A.a_is_condition A.d_is_condition ["machine", "thing"] (sp_is_condition K A.C) := by
  refine T.f_is_condition.F.ok sc_is_condition (fun vs H Q E h => ?_) (fun cdv Ar outer s H vs Q E hr h => ?_)
  · obtain ⟨p, z, R, v, d, rfl, _⟩ := h
    rfl
  · obtain ⟨p, z, R, v, d, rfl, hM, hd, hs, q⟩ := h
    refine ⟨_, (pss_cons (ps_expr (pe_call (ok_check_machine T) (hr.mono (by decide)) (by rfl) T.f_check_machine.g T.f_check_machine.F.kp T.f_check_machine.b .nil pass0 (pa_cons (pv 0) pa_nil))) (pss_one (ps_ret (pe_call (ok_is_condition_on T) (hr.mono (by decide)) (by rfl) T.f_is_condition_on.g T.f_is_condition_on.F.kp T.f_is_condition_on.b .nil pass0 (pa_cons (pe_prop (pv 0) T.cl T.p_letters (ok_Machine_letters T) (hr.mono (by decide)) T.f_Machine_letters.b .nil pass0 rfl) (pa_cons (pv 1) pa_nil)))))), ?_⟩
    obtain ⟨dx, r, hp, _⟩ := hM.at_
    refine ⟨_, rfl, p, z, R, rfl, hM, ?_⟩
    exact ⟨_, rfl, p, dx, _, rfl, hp, p, z, R, rfl, hM, _, rfl, z, v, d, rfl, l8_le hM.hz, hd, hs, q⟩
def sp_stand (K : PySem.W.Frag) (C : Addr) : Sp := fun vs H Q _ => ∃ (p a : Addr) (x z : Str) (R : Rows) (c : Cond), vs = [.ref p, .ref a, .str x] ∧ IsM K C H p z R ∧ SqT K H a (condV c) ∧ CondOk (zs z) c ∧ x.length ≤ 100000 ∧ (∀ d ∈ zs x, d ∈ zs z) ∧
  ∀ v H', Same H H' → StandAt K H' v ((madeM (zs z) R (zs x)).foldl (nextS (ix (zs z)) c) (first0 c)) → Q v H'
theorem ok_stand (T : Txt K mg A) : FnOk P w K mg base CX0 5 A.a_stand A.d_stand ["machine", "condition", "value"] (sp_stand K A.C) := by
  refine T.f_stand.F.ok sc_stand (fun vs H Q E h => ?_) (fun cdv Ar outer s H vs Q E hr h => ?_)
  · obtain ⟨p, a, x, z, R, c, rfl, _⟩ := h
    rfl
  · obtain ⟨p, a, x, z, R, c, rfl, hM, ha, hc, hx, hxz, q⟩ := h
    refine ⟨_, (pss_cons (ps_expr (pe_call (ok_check_machine T) (hr.mono (by decide)) (by rfl) T.f_check_machine.g T.f_check_machine.F.kp T.f_check_machine.b .nil pass0 (pa_cons (pv 0) pa_nil))) (pss_cons (ps_expr (pe_call (ok_check_condition T) (hr.mono (by decide)) (by rfl) T.f_check_condition.g T.f_check_condition.F.kp T.f_check_condition.b .nil pass0 (pa_cons (pe_prop (pv 0) T.cl T.p_letters (ok_Machine_letters T) (hr.mono (by decide)) T.f_Machine_letters.b .nil pass0 rfl) (pa_cons (pv 1) pa_nil)))) (pss_cons (ps_set (i := 3) sc_stand.nd rfl (Or.inl rfl) (pe_call (ok_first_stand T) (hr.mono (by decide)) (by rfl) T.f_first_stand.g T.f_first_stand.F.kp T.f_first_stand.b .nil pass0 (pa_cons (pv 1) pa_nil))) (pss_cons (ps_for PassesOwn.never rfl (pi_str (pe_meth (pv 0) T.cl T.m_made (ok_Machine_made T) (hr.mono (by decide)) T.f_Machine_made.b .nil pass0 (pa_cons (pv 2) pa_nil))) (pg_name (i := 4) sc_stand.nd rfl (Or.inl rfl)) (pss_one (ps_set (i := 3) sc_stand.nd rfl (Or.inl rfl) (pe_call (ok_next_stand T) (hr.mono (by decide)) (by rfl) T.f_next_stand.g T.f_next_stand.F.kp T.f_next_stand.b .nil pass0 (pa_cons (pe_prop (pv 0) T.cl T.p_letters (ok_Machine_letters T) (hr.mono (by decide)) T.f_Machine_letters.b .nil pass0 rfl) (pa_cons (pv 1) (pa_cons (pv 3) (pa_cons (pv 4) pa_nil)))))))) (pss_one (ps_ret (pv 3))))))), ?_⟩
    obtain ⟨dx, r, hp, _⟩ := hM.at_
    refine ⟨_, rfl, p, z, R, rfl, hM, ?_⟩
    refine ⟨_, rfl, p, dx, _, rfl, hp, p, z, R, rfl, hM, _, rfl, z, a, c, rfl, hM.hz, ha, hc, fun H1 s1 => ?_⟩
    refine ⟨_, rfl, a, zs z, c, rfl, SqT.same s1 ha, hc, fun v1 H2 s2 hv => ?_⟩
    have hM2 := (hM.same s1).same s2
    obtain ⟨dx2, r2, hp2, _⟩ := hM2.at_
    refine ⟨_, rfl, p, dx2, _, rfl, hp2, mfs_no _ _ (by decide +kernel) (by decide +kernel), _, rfl, p, x, z, R, rfl, hM2, hx, hxz, fun H3 s3 => ?_⟩
    have hout : ∀ d ∈ madeM (zs z) R (zs x), d ∈ zs z := runM_out hM.ok (zs x) 0 hM.ok.pos hxz
    generalize madeM (zs z) R (zs x) = L at q hout
    refine ⟨_, rfl, ?_⟩
    refine for_it (walk_str (z := S L)) (fun i σ H' => Same H H' ∧ ∃ v o, σ = [some (.ref p), some (.ref a), some (.str x), some v, o] ∧ StandAt K H' v ((L.take i).foldl (nextS (ix (zs z)) c) (first0 c)))
      ⟨(s1.trans s2).trans s3, v1, none, rfl, hv.same s3⟩ (fun _ _ _ _ _ => trivial) ?_ ?_
    · rintro i y σ H4 H5 hi ⟨sm, v, o, rfl, hv⟩ ⟨rfl, d, hd, rfl⟩
      have hd2 : L[i]? = some d := by have := str_at hd; rwa [zs_S] at this
      have hM4 := hM.same sm
      obtain ⟨dx4, r4, hp4, _⟩ := hM4.at_
      refine ⟨_, rfl, p, dx4, _, rfl, hp4, p, z, R, rfl, hM4, _, rfl, _, rfl, _, rfl, z, a, c, v, _, d, rfl, hM.hz, SqT.same sm ha, hc, hv, fold_ok hc _ _ (first_ok hc), hout d (List.mem_of_getElem? hd2), fun v' H6 s6 hv' => ?_⟩
      refine ⟨sm.trans s6, v', _, rfl, ?_⟩
      rw [take_succ' hd2, List.foldl_append]
      exact hv'
    · rintro σ H4 ⟨sm, v, o, rfl, hv⟩
      refine ⟨_, rfl, q v _ sm ?_⟩
      rwa [List.take_of_length_le (by simp [S])] at hv
def sp_meets (K : PySem.W.Frag) (C : Addr) : Sp := fun vs H Q _ => ∃ (p a : Addr) (x z : Str) (R : Rows) (c : Cond), vs = [.ref p, .ref a, .str x] ∧ IsM K C H p z R ∧ SqT K H a (condV c) ∧ CondOk (zs z) c ∧ x.length ≤ 100000 ∧ (∀ d ∈ zs x, d ∈ zs z) ∧
  ∀ H', Same H H' → Q (.bl (metS c ((madeM (zs z) R (zs x)).foldl (nextS (ix (zs z)) c) (first0 c)))) H'
theorem ok_meets (T : Txt K mg A) : FnOk P w K mg base CX0 6 A.a_meets A.d_meets ["machine", "condition", "value"] (sp_meets K A.C) := by
  refine T.f_meets.F.ok sc_meets (fun vs H Q E h => ?_) (fun cdv Ar outer s H vs Q E hr h => ?_)
  · obtain ⟨p, a, x, z, R, c, rfl, _⟩ := h
    rfl
  · obtain ⟨p, a, x, z, R, c, rfl, hM, ha, hc, hx, hxz, q⟩ := h
    refine ⟨_, (pss_one (ps_ret (pe_call (ok_is_met T) (hr.mono (by decide)) (by rfl) T.f_is_met.g T.f_is_met.F.kp T.f_is_met.b .nil pass0 (pa_cons (pv 1) (pa_cons (pe_call (ok_stand T) (hr.mono (by decide)) (by rfl) T.f_stand.g T.f_stand.F.kp T.f_stand.b .nil pass0 (pa_cons (pv 0) (pa_cons (pv 1) (pa_cons (pv 2) pa_nil)))) pa_nil))))), ?_⟩
    refine ⟨_, rfl, _, rfl, _, rfl, _, rfl, p, a, x, z, R, c, rfl, hM, ha, hc, hx, hxz, fun v H1 s1 hv => ?_⟩
    exact ⟨a, zs z, c, v, _, rfl, SqT.same s1 ha, hc, hv, fold_ok hc _ _ (first_ok hc), fun H2 s2 => q _ (s1.trans s2)⟩
end
end K3
set_option Elab.async false
set_option linter.all false
set_option maxRecDepth 100000
set_option maxHeartbeats 4000000
namespace K3
open PySem PySem.Spec PyProof.Rows L2 FX
section
variable {P : Program} {w : World} {K : PySem.W.Frag} {mg : Str → Option Value} {base : Heap} {A : Ad}
def sp_lturn (K : PySem.W.Frag) : Sp := fun vs H Q _ => ∃ (z : Str) (v : V) (R : Rows) (st c : Nat), vs = [.str z, v, .int st, .str (S [c])] ∧ z ∈ L8 ∧ Dp K H v (rowsD R) ∧ MachOk (zs z) R ∧ st < R.length ∧ c ∈ zs z ∧ ∀ u, Dp K H u (turnD (stp (zs z) R st c)) → Q u H
theorem ok_law_turn (T : Txt K mg A) : FnOk P w K mg base CX0 1 A.a_law_turn A.d_law_turn ["letters", "rows", "state", "letter"] (sp_lturn K) := by
  refine T.f_law_turn.F.ok sc_law_turn (fun vs H Q E h => ?_) (fun cdv Ar outer s H vs Q E hr h => ?_)
  · obtain ⟨z, v, R, st, c, rfl, _⟩ := h
    rfl
  · obtain ⟨z, v, R, st, c, rfl, hz, hd, M, hst, hc, q⟩ := h
    refine ⟨_, (pss_one (ps_ret (pe_ix ix_tup (pe_ix ix_tup (pv 1) (pv 2) (fun _ _ => rfl)) (pe_m1 PySem.F.slot_str_index PySem.F.type_str_index mt_sindex (pv 0) (pv 3)) (fun _ _ => rfl)))), ?_⟩
    obtain ⟨row, g1, g2, g3, g4⟩ := stp_mem M hst hc
    obtain ⟨a, xs, rfl, hs, ha⟩ := Dp.tupOf hd
    obtain ⟨v1, k1, k2⟩ := DpAll.get ha (i := st) (d := rowD row) (by rw [List.getElem?_map, g1]; rfl)
    obtain ⟨b, ys, rfl, hs2, ha2⟩ := Dp.tupOf k2
    obtain ⟨v2, k3, k4⟩ := DpAll.get ha2 (i := ix (zs z) c) (d := turnD (stp (zs z) R st c)) (by rw [List.getElem?_map, g2]; rfl)
    refine ⟨_, rfl, _, rfl, a, xs, st, _, rfl, rfl, hs, atI_nat k1, _, rfl, ⟨_, rfl⟩, _, rfl, z, S [c], ix (zs z) c, [], rfl, rfl, l8_index z hz c hc, ?_⟩
    exact ⟨b, ys, ((ix (zs z) c : Nat) : Int), v2, rfl, rfl, hs2, atI_nat k3, q v2 k4⟩
theorem S_app (a b : List Nat) : S (a ++ b) = S a ++ S b := by
  show (⟨(a ++ b).toArray⟩ : Str) = ⟨a.toArray ++ b.toArray⟩
  rw [List.append_toArray]
def sp_lends (K : PySem.W.Frag) : Sp := fun vs H Q _ => ∃ (z x : Str) (v : V) (R : Rows), vs = [.str z, v, .str x] ∧ z ∈ L8 ∧ Dp K H v (rowsD R) ∧ MachOk (zs z) R ∧ x.length ≤ 1000 ∧ (∀ c ∈ zs x, c ∈ zs z) ∧
  ∀ t H', Same H H' → SqT K H' t [.int (runM (zs z) R 0 (zs x)).1, .str (S (madeM (zs z) R (zs x)))] → Q (.ref t) H'
theorem ok_law_ends (T : Txt K mg A) : FnOk P w K mg base CX0 2 A.a_law_ends A.d_law_ends ["letters", "rows", "value"] (sp_lends K) := by
  refine T.f_law_ends.F.ok sc_law_ends (fun vs H Q E h => ?_) (fun cdv Ar outer s H vs Q E hr h => ?_)
  · obtain ⟨z, x, v, R, rfl, _⟩ := h
    rfl
  · obtain ⟨z, x, v, R, rfl, hz, hd, M, hx, hc, q⟩ := h
    refine ⟨_, (pss_cons (ps_asg (pe_tup (pa_cons pe_int (pa_cons pe_str pa_nil))) (pg_tup (by rfl) (pgs_cons (pg_name (i := 3) sc_law_ends.nd rfl (Or.inl rfl)) (pgs_cons (pg_name (i := 4) sc_law_ends.nd rfl (Or.inl rfl)) pgs_nil)))) (pss_cons (ps_for PassesOwn.never rfl (pi_str (pv 2)) (pg_name (i := 5) sc_law_ends.nd rfl (Or.inl rfl)) (pss_cons (ps_asg (pe_call (ok_law_turn T) (hr.mono (by decide)) (by rfl) T.f_law_turn.g T.f_law_turn.F.kp T.f_law_turn.b .nil pass0 (pa_cons (pv 0) (pa_cons (pv 1) (pa_cons (pv 3) (pa_cons (pv 5) pa_nil))))) (pg_tup (by rfl) (pgs_cons (pg_name (i := 3) sc_law_ends.nd rfl (Or.inl rfl)) (pgs_cons (pg_name (i := 6) sc_law_ends.nd rfl (Or.inl rfl)) pgs_nil)))) (pss_one (ps_set (i := 4) sc_law_ends.nd rfl (Or.inl rfl) (pe_op op_add_str (pv 4) (pv 6)))))) (pss_one (ps_ret (pe_tup (pa_cons (pv 3) (pa_cons (pv 4) pa_nil))))))), ?_⟩
    refine ⟨by show 2 ≤ sizeLine; decide, fun t0 ht0 => ⟨t0, _, rfl, SqT.of upd_same, rfl, _, _, rfl, _, _, rfl, rfl, ?_⟩⟩
    refine ⟨_, rfl, x, rfl, ?_⟩
    refine for_it (walk_str (z := x)) (fun i σ H' => Same H H' ∧ ∃ o5 o6, σ = [some (.str z), some v, some (.str x), some (.int (runM (zs z) R 0 ((zs x).take i)).1), some (.str (S (runM (zs z) R 0 ((zs x).take i)).2)), o5, o6])
      ⟨same_upd ht0, none, none, rfl⟩ (fun _ _ _ _ _ => trivial) ?_ ?_
    · rintro i y σ H2 H3 hi ⟨sm, o5, o6, rfl⟩ ⟨rfl, c, hci, rfl⟩
      have hcx := str_at hci
      have ht := take_succ' hcx
      have hpre : ∀ d ∈ (zs x).take i, d ∈ zs z := fun d hd => hc d (List.mem_of_mem_take hd)
      have hst := runM_lt M ((zs x).take i) 0 M.pos hpre
      have hcz : c ∈ zs z := hc c (List.mem_of_getElem? hcx)
      refine ⟨_, rfl, _, rfl, _, rfl, _, rfl, z, v, R, _, c, rfl, hz, Dp.same sm hd, M, hst, hcz, fun u hu => ?_⟩
      obtain ⟨t, xs, rfl, hts, hta⟩ := Dp.tupOf hu
      cases hta with
      | cons g1 g2 =>
        cases g2 with
        | cons g2 g3 =>
          cases g3
          obtain rfl := Dp.intOf g1
          obtain rfl := Dp.strOf g2
          refine ⟨t, _, rfl, hts, rfl, _, _, rfl, _, _, rfl, rfl, ?_⟩
          have l1 := runM_len M ((zs x).take i) 0 M.pos hpre
          have l2 := stp_one M hst hcz
          refine ⟨_, rfl, _, rfl, _, _, rfl, rfl, ?_, sm, some (.str ⟨#[c]⟩), some (.str (S (stp (zs z) R (runM (zs z) R 0 ((zs x).take i)).1 c).2)), ?_⟩
          · rw [S_len, S_len]
            rw [List.length_take, zs_length] at l1
            exact Nat.le_trans (show _ ≤ 1001 by omega) (by decide)
          · rw [ht, runM_app]
            rw [S_app]
            simp only [runM, List.append_nil]
            rfl
    · rintro σ H2 ⟨sm, o5, o6, rfl⟩
      have e0 : (zs x).take x.cps.size = zs x := List.take_of_length_le (by simp [zs])
      rw [e0]
      exact ⟨_, rfl, _, rfl, by show 2 ≤ sizeLine; decide, fun t ht => q t _ (Same.up sm ht) (SqT.of upd_same)⟩
end
end K3
set_option Elab.async false
set_option linter.all false
set_option maxRecDepth 100000
set_option maxHeartbeats 4000000
namespace K3
open PySem PySem.Spec PyProof.Rows L2 FX
section
variable {P : Program} {w : World} {K : PySem.W.Frag} {mg : Str → Option Value} {base : Heap} {A : Ad}
def sp_lbeside (K : PySem.W.Frag) : Sp := fun vs H Q _ => ∃ (z : Str) (t : List Nat) (n : Int) (c : Nat), vs = [.str z, .str (S t), .int n, .str (S [c])] ∧ z ∈ L8 ∧ c ∈ zs z ∧ (∀ d ∈ t, d ∈ zs z) ∧ t.length ≤ 100 ∧ -2 ≤ n ∧ n ≤ t.length ∧ Q (.int (bNext (ix (zs z)) t n c)) H
theorem ok_law_beside (T : Txt K mg A) : FnOk P w K mg base CX0 1 A.a_law_beside A.d_law_beside ["letters", "bound", "place", "letter"] (sp_lbeside K) := by
  refine T.f_law_beside.F.ok sc_law_beside (fun vs H Q E h => ?_) (fun cdv Ar outer s H vs Q E hr h => ?_)
  · obtain ⟨z, t, n, c, rfl, _⟩ := h
    rfl
  · obtain ⟨z, t, n, c, rfl, hz, hc, hd, ht, n0, n1, q⟩ := h
    refine ⟨_, (pss_cons (ps_if (pt_cmpR op_lt (pv 2) pe_int (nomark _)) (pss_one (ps_ret (pv 2))) pss_nil) (pss_cons (ps_if (pt_cmpR op_eq (pv 2) (pe_callB call_len_str (by rfl) T.n_len (by decide +kernel) (pa_cons (pv 1) pa_nil)) (nomark _)) (pss_one (ps_ret (pe_un un_neg pe_int))) pss_nil) (pss_cons (ps_if (pt_cmpR op_eq (pe_ix ix_str (pv 1) (pv 2) (fun _ _ => rfl)) (pv 3) (nomark _)) (pss_one (ps_ret (pe_op op_add (pv 2) pe_int))) pss_nil) (pss_one (ps_ret (pe_ifExp (pt_cmpR op_lt (pe_m1 PySem.F.slot_str_index PySem.F.type_str_index mt_sindex (pv 0) (pv 3)) (pe_m1 PySem.F.slot_str_index PySem.F.type_str_index mt_sindex (pv 0) (pe_ix ix_str (pv 1) (pv 2) (fun _ _ => rfl))) (nomark _)) (pe_un un_neg pe_int) (pe_un un_neg pe_int))))))), ?_⟩
    have hl : (S t).length = t.length := S_len t
    refine ⟨_, rfl, _, _, rfl, rfl, _, rfl, ?_⟩
    by_cases h0 : n < 0
    · rw [decide_eq_true h0]
      refine iteT ⟨_, rfl, ?_⟩
      rw [show bNext (ix (zs z)) t n c = n from if_pos h0] at q
      exact q
    · rw [decide_eq_false h0]
      refine iteF ⟨_, rfl, _, rfl, S t, rfl, S_line ht, rfl, _, rfl, ?_⟩
      rw [hl, dec_int]
      by_cases h1 : n = t.length
      · rw [decide_eq_true h1]
        rw [show bNext (ix (zs z)) t n c = -2 by unfold bNext; rw [if_neg h0, if_pos h1]] at q
        exact iteT ⟨_, rfl, q⟩
      · rw [decide_eq_false h1]
        obtain ⟨i, rfl⟩ : ∃ i : Nat, n = (i : Int) := ⟨n.toNat, by omega⟩
        have hi : i < t.length := by omega
        have ei : t[i]? = some t[i] := List.getElem?_eq_getElem hi
        refine iteF ⟨_, rfl, _, rfl, S t, _, t[i], rfl, rfl, S_line ht, atS ei, _, rfl, rfl, _, rfl, ?_⟩
        rw [show (⟨#[t[i]]⟩ : Str) = S [t[i]] from rfl, sign_eq]
        have eb : bNext (ix (zs z)) t i c = if t[i]? = some c then (i : Int) + 1 else if ix (zs z) c < ix (zs z) t[i] then -1 else -2 := by
          unfold bNext
          rw [if_neg h0, if_neg h1, Int.toNat_natCast, List.getD_eq_getElem?_getD, ei]
          rfl
        rw [eb, ei] at q
        by_cases e : t[i] = c
        · rw [decide_eq_true e]
          rw [if_pos (by rw [e])] at q
          exact iteT ⟨_, rfl, _, _, rfl, rfl, q⟩
        · rw [decide_eq_false e]
          rw [if_neg (fun h => e (Option.some.inj h))] at q
          refine iteF ⟨_, rfl, ⟨_, rfl⟩, _, rfl, z, S [c], ix (zs z) c, [], rfl, rfl, l8_index z hz c hc, ?_⟩
          refine ⟨_, rfl, ⟨_, rfl⟩, _, rfl, _, rfl, S t, _, t[i], rfl, rfl, S_line ht, atS ei, ?_⟩
          refine ⟨z, S [t[i]], ix (zs z) t[i], [], rfl, rfl, l8_index z hz _ (hd _ (List.getElem_mem hi)), _, _, rfl, rfl, _, rfl, ?_⟩
          by_cases h2 : ix (zs z) c < ix (zs z) t[i]
          · rw [decide_eq_true (by omega)]
            rw [if_pos h2] at q
            exact iteT ⟨_, rfl, q⟩
          · rw [decide_eq_false (by omega)]
            rw [if_neg h2] at q
            exact iteF ⟨_, rfl, q⟩
def sp_lmet (K : PySem.W.Frag) : Sp := fun vs H Q _ => ∃ (a : Addr) (z : List Nat) (c : Cond) (v : V) (s : Stand), vs = [.ref a, v] ∧ SqT K H a (condV c) ∧ CondOk z c ∧ StandAt K H v s ∧ StOk c s ∧ ∀ H', Same H H' → Q (.bl (metS c s)) H'
theorem ok_law_met (T : Txt K mg A) : FnOk P w K mg base CX0 1 A.a_law_met A.d_law_met ["condition", "mark"] (sp_lmet K) := by
  refine T.f_law_met.F.ok sc_law_met (fun vs H Q E h => ?_) (fun cdv Ar outer s H vs Q E hr h => ?_)
  · obtain ⟨a, z, c, v, s, rfl, _⟩ := h
    rfl
  · obtain ⟨a, z, c, v, s, rfl, ha, hc, hv, hs, q⟩ := h
    refine ⟨_, (pss_cons (ps_if (pt_cmpR op_eq (pe_ix ix_tup (pv 0) pe_int (fun _ _ => rfl)) pe_str (nomark _)) (pss_one (ps_ret (pe_and (pe_cmpR op_in_seq (pe_ix ix_tup (pv 1) pe_int (fun _ _ => rfl)) (pe_tup (pa_cons (pe_un un_neg pe_int) (pa_cons (pe_callB call_len_str (by rfl) T.n_len (by decide +kernel) (pa_cons (pe_ix ix_tup (pv 0) pe_int (fun _ _ => rfl)) pa_nil)) pa_nil))) (by rfl)) (pe_one (pe_cmpR op_ne (pe_ix ix_tup (pv 1) pe_int (fun _ _ => rfl)) (pe_un un_neg pe_int) (nomark _)))))) pss_nil) (pss_one (ps_ret (pe_ifExp (pt_cmpR op_eq (pe_ix ix_tup (pv 0) pe_int (fun _ _ => rfl)) pe_str (nomark _)) (pe_cmpR op_in_seq (pe_callB call_len_str (by rfl) T.n_len (by decide +kernel) (pa_cons (pe_ix ix_tup (pv 0) pe_int (fun _ _ => rfl)) pa_nil)) (pv 1) (by rfl)) (pe_cmpR op_eq (pv 1) (pe_callB call_len_str (by rfl) T.n_len (by decide +kernel) (pa_cons (pe_ix ix_tup (pv 0) pe_int (fun _ _ => rfl)) pa_nil)) (nomark _)))))), ?_⟩
    cases c with
    | eq b t =>
      cases s with
      | b x y => exact hs.elim
      | l ps => exact hs.elim
      | m n =>
        obtain rfl := hv
        refine ⟨_, rfl, a, condV (.eq b t), 0, _, rfl, rfl, ha, rfl, rfl, _, rfl, ?_⟩
        refine iteD0 (by cases b <;> decide +kernel) ⟨_, rfl, a, condV (.eq b t), 0, _, rfl, rfl, ha, rfl, rfl, _, rfl, ?_⟩
        refine iteD0 (by cases b <;> decide +kernel) ⟨_, rfl, _, rfl, a, condV (.eq b t), 1, _, rfl, rfl, ha, rfl, S t, rfl, S_line (Nat.le_trans hc.1 (by decide)), rfl, ?_⟩
        rw [S_len, dec_int]
        exact q _ (Same.refl _)
    | btw b e =>
      cases s with
      | m n => exact hs.elim
      | l ps => exact hs.elim
      | b x y =>
        obtain ⟨p, rfl, hp⟩ := hv
        refine ⟨_, rfl, a, condV (.btw b e), 0, _, rfl, rfl, ha, rfl, rfl, _, rfl, ?_⟩
        refine iteD1 (by decide +kernel) ⟨_, rfl, p, _, 0, _, rfl, rfl, hp, rfl, _, rfl, ?_⟩
        refine ⟨_, rfl, a, condV (.btw b e), 1, _, rfl, rfl, ha, rfl, S b, rfl, S_line (Nat.le_trans hc.1.1 (by decide)), by show 2 ≤ sizeLine; decide, fun r hr => ⟨r, _, rfl, .inr (SqT.of upd_same), rfl, rfl, _, rfl, ?_⟩⟩
        dsimp only
        rw [if_neg Bool.false_ne_true, in2, S_len]
        have q := q _ (same_upd (o := .tup [v_BEHIND, .int ((S b).length : Int)]) hr)
        rw [S_len] at q
        rw [show metS (.btw b e) (.b x y) = (decide (x = -2 ∨ x = b.length) && !decide (y = -2)) from rfl] at q
        cases h : decide (x = -2 ∨ x = b.length) with
        | true =>
          rw [h, Bool.true_and] at q
          refine iteT ⟨_, rfl, p, _, 1, _, rfl, rfl, SqT.same (same_upd hr) hp, rfl, _, rfl, rfl, ?_⟩
          rw [dec_int]
          exact q
        | false =>
          rw [h, Bool.false_and] at q
          exact iteF q
    | like t =>
      cases s with
      | m n => exact hs.elim
      | b x y => exact hs.elim
      | l ps =>
        obtain ⟨p, rfl, hp⟩ := hv
        refine ⟨_, rfl, a, condV (.like t), 0, _, rfl, rfl, ha, rfl, rfl, _, rfl, ?_⟩
        refine iteD0 (by decide +kernel) ⟨_, rfl, a, condV (.like t), 0, _, rfl, rfl, ha, rfl, rfl, _, rfl, ?_⟩
        refine iteD1 (by decide +kernel) ⟨_, rfl, a, condV (.like t), 1, _, rfl, rfl, ha, rfl, S t, rfl, S_line (Nat.le_trans hc.1 (by decide)), _, rfl, p, _, rfl, .inr hp, rfl, flat_nats _, ?_⟩
        dsimp only
        rw [if_neg Bool.false_ne_true, S_len, inV_mem]
        exact q _ (Same.refl _)
end
end K3
set_option Elab.async false
set_option linter.all false
set_option maxRecDepth 100000
set_option maxHeartbeats 4000000
namespace K3
open PySem PySem.Spec PyProof.Rows L2 FX
section
variable {P : Program} {w : World} {K : PySem.W.Frag} {mg : Str → Option Value} {base : Heap} {A : Ad}
def sp_fits (n : Nat) : Sp := fun vs H Q _ => ∃ (s x : List Nat), vs = [.str (S s), .str (S x)] ∧ s.length < n ∧ s.length ≤ 100 ∧ x.length ≤ 1000 ∧ ∀ H', Same H H' → Q (.bl (fits s x)) H'
theorem cutS_tail (s : List Nat) (k : Nat) : cutS (S s) (some (k : Int)) none = S (s.drop k) := by
  unfold cutS
  rw [S_len, HT.sIx_nat, HT.sIx_none, show (S s).cps.toList = s from zs_S s]
  show S _ = _
  congr 1
  by_cases h : k ≤ s.length
  · rw [show min k s.length = k by omega, List.take_of_length_le (by rw [List.length_drop]; omega)]
  · rw [show min k s.length = s.length by omega, List.drop_length, List.drop_of_length_le (by omega), List.take_nil]
theorem str_nil (x : List Nat) : decide (V.str (S x) = V.str (Str.ofString "")) = x.isEmpty := by
  cases x with
  | nil => exact decide_eq_true rfl
  | cons a x => exact decide_eq_false fun h => by have := S_inj (a := a :: x) (b := []) (V.str.inj h); cases this
theorem atS0 {a : Nat} {s : List Nat} : atI (S (a :: s)).cps.toList 0 = some a := atS (t := a :: s) (i := 0) rfl
theorem sign_two (a b : Nat) : inV (.str ⟨#[a]⟩) [V.str (Str.ofString "?"), V.str ⟨#[b]⟩] = (decide (a = 63) || decide (a = b)) := by
  have h : ∀ d, eqV (.str (S [d])) (.str (S [a])) = decide (a = d) := fun d => by
    show ((S [d]) == (S [a])) = _
    rw [str_beq, sign_eq]
    exact decide_eq_decide.mpr ⟨Eq.symm, Eq.symm⟩
  show (eqV (.str (S [63])) (.str (S [a])) || (eqV (.str (S [b])) (.str (S [a])) || false)) = _
  rw [h, h, Bool.or_false]
theorem ok_law_fits_n (T : Txt K mg A) : ∀ n : Nat, FnOk P w K mg base CX0 (n + 1) A.a_law_fits A.d_law_fits ["pattern", "text"] (sp_fits n)
  | 0 => by
    refine T.f_law_fits.F.ok sc_law_fits (fun vs H Q E h => ?_) (fun cdv Ar outer s H vs Q E hr h => ?_)
    · obtain ⟨s, x, _, h, _⟩ := h
      exact absurd h (Nat.not_lt_zero _)
    · obtain ⟨s, x, _, h, _⟩ := h
      exact absurd h (Nat.not_lt_zero _)
  | n + 1 => by
    have ih : FnOk P w K mg base CX0 (n + 1) A.a_law_fits A.d_law_fits ["pattern", "text"] (sp_fits n) := ok_law_fits_n T n
    refine T.f_law_fits.F.ok sc_law_fits (fun vs H Q E h => ?_) (fun cdv Ar outer s H vs Q E hr h => ?_)
    · obtain ⟨s, x, rfl, _⟩ := h
      rfl
    · obtain ⟨s, x, rfl, hn, h100, hx, q⟩ := h
      refine ⟨_, (pss_cons (ps_if (pt_cmpR op_eq (pv 0) pe_str (nomark _)) (pss_one (ps_ret (pe_cmpR op_eq (pv 1) pe_str (nomark _)))) pss_nil) (pss_cons (ps_if (pt_cmpR op_eq (pe_ix ix_str (pv 0) pe_int (fun _ _ => rfl)) pe_str (nomark _)) (pss_one (ps_ret (pe_callB (cr_any rfl) (by rfl) T.n_any (by decide +kernel) (pa_cons (pe_lc (own := [("at", 2)]) (g := (gName 2)) (tt := tYes) (by rfl) sc_law_fits.nd (pi_range1 (by rfl) T.n_range (pa_cons (pe_op op_add (pe_callB call_len_str (by rfl) T.n_len (by decide +kernel) (pa_cons (pv 1) pa_nil)) pe_int) pa_nil)) (blkOk_by (own := [("at", 2)]) (N := ["pattern", "text", "at"]) (sc := defScope s_law_fits) (by decide +kernel)) (fun _ _ _ _ _ => (pg_name (i := 2) sc_law_fits.nd rfl (Or.inl rfl))) (fun _ _ _ _ _ => pts_nil) (fun _ _ _ _ _ => by exact (pe_call ih (hr.mono (Nat.le_refl _)) (by rfl) T.f_law_fits.g T.f_law_fits.F.kp T.f_law_fits.b .nil pass0 (pa_cons (pe_slice sl_str (pv 0) (po_some pe_int) po_none) (pa_cons (pe_slice sl_str (pv 1) (po_some (pv 2)) po_none) pa_nil))))) pa_nil)))) pss_nil) (pss_one (ps_ret (pe_and (pe_cmpR op_ne (pv 1) pe_str (nomark _)) (pe_and (pe_cmpR op_in_seq (pe_ix ix_str (pv 0) pe_int (fun _ _ => rfl)) (pe_tup (pa_cons pe_str (pa_cons (pe_ix ix_str (pv 1) pe_int (fun _ _ => rfl)) pa_nil))) (by rfl)) (pe_one (pe_call ih (hr.mono (Nat.le_refl _)) (by rfl) T.f_law_fits.g T.f_law_fits.F.kp T.f_law_fits.b .nil pass0 (pa_cons (pe_slice sl_str (pv 0) (po_some pe_int) po_none) (pa_cons (pe_slice sl_str (pv 1) (po_some pe_int) po_none) pa_nil)))))))))), ?_⟩
      refine ⟨_, rfl, rfl, _, rfl, ?_⟩
      dsimp only
      have lx : (S x).length ≤ sizeLine := by rw [S_len]; exact Nat.le_trans hx (by decide)
      cases s with
      | nil =>
        rw [show decide (V.str (S []) = V.str (Str.ofString "")) = true from decide_eq_true rfl]
        refine iteT ⟨_, rfl, rfl, ?_⟩
        have := q _ (Same.refl _)
        rwa [show fits [] x = decide (V.str (S x) = V.str (Str.ofString "")) by rw [str_nil]; cases x <;> rfl] at this
      | cons a s =>
        have ls : (S (a :: s)).length ≤ sizeLine := S_line h100
        rw [show decide (V.str (S (a :: s)) = V.str (Str.ofString "")) = false by rw [str_nil]; rfl]
        refine iteF ⟨_, rfl, S (a :: s), 0, a, rfl, rfl, ls, atS0, rfl, _, rfl, ?_⟩
        rw [show (⟨#[a]⟩ : Str) = S [a] from rfl, show (Str.ofString "*") = S [42] from rfl, sign_eq]
        have hn2 : s.length < n := by rw [List.length_cons] at hn; omega
        have h99 : s.length ≤ 100 := by rw [List.length_cons] at h100; omega
        by_cases e : a = 42
        · rw [decide_eq_true e]
          have eN : (((S x).length : Int) + 1).toNat = x.length + 1 := by rw [S_len]; omega
          refine iteT ⟨_, rfl, S x, rfl, lx, _, _, rfl, rfl, _, rfl, by omega, by rw [S_len]; omega, fun D hD => ?_⟩
          refine lc_rel walk_range (fun j v _ => v = .bl (fits s (x.drop j))) (fun _ _ _ _ _ h => h) hD (by rw [eN]; exact Nat.lt_of_le_of_lt (show x.length + 1 ≤ 1001 by omega) (by decide)) (fun _ _ => trivial) ?_ ?_
          · rintro i y H1 H2 hi sm ⟨o, hd⟩ ⟨rfl, rfl⟩ kk
            refine ⟨rfl, ?_⟩
            unfold tYes
            refine iteT ⟨_, rfl, _, rfl, S (a :: s), rfl, ls, _, rfl, _, rfl, _, rfl, S x, rfl, lx, s, x.drop i, ?_, hn2, h99, by rw [List.length_drop]; omega, fun H3 s3 => kk _ _ s3 rfl⟩
            rw [show ((0 : Int) + (i : Int)) = (i : Int) by omega, cutS_tail, show (some (1 : Int)) = some ((1 : Nat) : Int) from rfl, cutS_tail]
            rfl
          · intro H1 ys sm hx1 hn1 hv
            rw [eN] at hn1
            have e1 : ys = ((List.range (x.length + 1)).map fun k => fits s (x.drop k)).map V.bl := by
              refine List.ext_getElem? fun j => ?_
              rw [List.map_map, List.getElem?_map]
              cases e : ys[j]? with
              | none =>
                have q1 : ys.length ≤ j := List.getElem?_eq_none_iff.mp e
                rw [List.getElem?_eq_none (by rw [List.length_range]; omega)]
                rfl
              | some v =>
                have hj : j < x.length + 1 := by rw [← hn1]; exact (List.getElem?_eq_some_iff.mp e).1
                rw [hv j v e, List.getElem?_range hj]
                rfl
            refine ⟨D, _, rfl, .inl (.inl (by rw [hx1, e1])), ?_⟩
            rw [List.any_map]
            have := q _ sm
            rw [e, fits_s] at this
            exact this
        · rw [decide_eq_false e]
          rw [fits_h _ _ e] at q
          refine iteF ⟨_, rfl, rfl, _, rfl, ?_⟩
          rw [str_nil]
          cases x with
          | nil => exact iteF (q _ (Same.refl _))
          | cons b x =>
            refine iteT ⟨_, rfl, S (a :: s), 0, a, rfl, rfl, ls, atS0, _, rfl, S (b :: x), 0, b, rfl, rfl, lx, atS0, by show 2 ≤ sizeLine; decide, fun t ht => ⟨t, _, rfl, .inr (SqT.of upd_same), rfl, rfl, _, rfl, ?_⟩⟩
            dsimp only
            rw [if_neg Bool.false_ne_true, show inV (.str ⟨#[a]⟩) [V.str (Str.ofString "?"), V.str ⟨#[b]⟩] = (decide (a = 63) || decide (a = b)) from sign_two a b]
            cases h : (decide (a = 63) || decide (a = b)) with
            | false =>
              have := q _ (same_upd (o := .tup [V.str (Str.ofString "?"), V.str ⟨#[b]⟩]) ht)
              rw [show headF a (fits s) (b :: x) = false by show ((decide (a = 63) || decide (a = b)) && _) = false; rw [h]; rfl] at this
              exact iteF this
            | true =>
              refine iteT ⟨_, rfl, _, rfl, S (a :: s), rfl, ls, _, rfl, _, rfl, S (b :: x), rfl, lx, s, x, ?_, hn2, h99, by rw [List.length_cons] at hx; omega, fun H3 s3 => ?_⟩
              · rw [show (some (1 : Int)) = some ((1 : Nat) : Int) from rfl, cutS_tail, cutS_tail]
                rfl
              · have := q _ ((same_upd (o := .tup [V.str (Str.ofString "?"), V.str ⟨#[b]⟩]) ht).trans s3)
                rw [show headF a (fits s) (b :: x) = fits s x by show ((decide (a = 63) || decide (a = b)) && _) = _; rw [h]; rfl] at this
                exact this
theorem ok_law_fits (T : Txt K mg A) : FnOk P w K mg base CX0 6 A.a_law_fits A.d_law_fits ["pattern", "text"] (sp_fits 5) := ok_law_fits_n T 5
end
end K3
set_option Elab.async false
set_option linter.all false
set_option maxRecDepth 100000
set_option maxHeartbeats 4000000
namespace K3
open PySem PySem.Spec PyProof.Rows L2 FX
theorem units0 {k : Nat} {A : Around} (r : Room k A) : A.units < cLine := by have := r.un; omega
abbrev ranks (r : Nat → Nat) (x : List Nat) : List Int := x.map fun c => ((r c : Nat) : Int)
theorem lex_leR (r : Nat → Nat) : ∀ (x y : List Nat) (n m : Nat), lexB (fun a b => decide (a ≤ b)) (decide (x.length + n ≤ y.length + n)) (ranks r x) (ranks r y) = leR r x y
  | [], y, n, m => by
    rw [leR_nil]
    cases y <;> exact decide_eq_true (by simp)
  | c :: x, [], n, m => decide_eq_false (by simp)
  | c :: x, d :: y, n, m => by
    show (if ((r c : Nat) : Int) = ((r d : Nat) : Int) then _ else decide (((r c : Nat) : Int) ≤ ((r d : Nat) : Int))) = _
    rw [leR_cons]
    have ih := lex_leR r x y (n + 1) m
    by_cases e : r c = r d
    · rw [if_pos (by rw [e]), if_pos e, ← ih]
      rw [show (c :: x).length + n = x.length + (n + 1) by rw [List.length_cons]; omega, show (d :: y).length + n = y.length + (n + 1) by rw [List.length_cons]; omega]
    · rw [if_neg (fun h => e (by omega)), if_neg e, decide_eq_decide]
      exact Int.ofNat_le
theorem yes_go {σ : L2.St} {H : Hp} {Q : Bool → Hp → Prop} (h : Q true H) : tYes σ H Q := h
theorem strS_dec (a b : List Nat) : decide (V.str (S a) = V.str (S b)) = decide (a = b) := decide_eq_decide.mpr ⟨fun h => S_inj (V.str.inj h), fun h => by rw [h]⟩
theorem cutS_head (s : List Nat) (k : Nat) : cutS (S s) none (some (k : Int)) = S (s.take k) := by
  unfold cutS
  rw [S_len, HT.sIx_nat, HT.sIx_none, show (S s).cps.toList = s from zs_S s]
  show S _ = _
  congr 1
  rw [List.drop_zero, Nat.sub_zero]
  by_cases h : k ≤ s.length
  · rw [show min k s.length = k by omega]
  · rw [show min k s.length = s.length by omega, List.take_length, List.take_of_length_le (by omega)]
section
variable {P : Program} {w : World} {K : PySem.W.Frag} {mg : Str → Option Value} {base : Heap} {A : Ad}
def sp_lis_met (K : PySem.W.Frag) : Sp := fun vs H Q _ => ∃ (z : Str) (a : Addr) (c : Cond) (x : List Nat), vs = [.str z, .ref a, .str (S x)] ∧ z ∈ L8 ∧ SqT K H a (condV c) ∧ CondOk (zs z) c ∧ x.length ≤ 1000 ∧ (∀ d ∈ x, d ∈ zs z) ∧ ∀ H', Same H H' → Q (.bl (isMet (ix (zs z)) c x)) H'
theorem ok_law_is_met (T : Txt K mg A) : FnOk P w K mg base CX0 7 A.a_law_is_met A.d_law_is_met ["letters", "condition", "text"] (sp_lis_met K) := by
  refine T.f_law_is_met.F.ok sc_law_is_met (fun vs H Q E h => ?_) (fun cdv Ar outer s H vs Q E hr h => ?_)
  · obtain ⟨z, a, c, x, rfl, _⟩ := h
    rfl
  · obtain ⟨z, a, c, x, rfl, hz, ha, hc, hx, hxz, q⟩ := h
    refine ⟨_, (pss_cons (ps_asg (pe_slice sl_tupA (pv 1) po_none (po_some pe_int)) (pg_tup (by rfl) (pgs_cons (pg_name (i := 3) sc_law_is_met.nd rfl (Or.inl rfl)) (pgs_cons (pg_name (i := 4) sc_law_is_met.nd rfl (Or.inl rfl)) pgs_nil)))) (pss_cons (ps_if (pt_cmpR op_eq (pv 3) pe_str (nomark _)) (pss_one (ps_ret (pe_cmpR op_eq (pv 2) (pv 4) (nomark _)))) pss_nil) (pss_cons (ps_if (pt_cmpR op_eq (pv 3) pe_str (nomark _)) (pss_one (ps_ret (pe_cmpR op_eq (pe_slice sl_str (pv 2) po_none (po_some (pe_callB call_len_str (by rfl) T.n_len (by decide +kernel) (pa_cons (pv 4) pa_nil)))) (pv 4) (nomark _)))) pss_nil) (pss_cons (ps_if (pt_cmpR op_eq (pv 3) pe_str (nomark _)) (pss_one (ps_ret (pe_call (ok_law_fits T) (hr.mono (by decide)) (by rfl) T.f_law_fits.g T.f_law_fits.F.kp T.f_law_fits.b .nil pass0 (pa_cons (pv 4) (pa_cons (pv 2) pa_nil))))) pss_nil) (pss_cons (ps_asg (pe_lc (own := [("some", 8)]) (g := (gName 8)) (tt := tYes) (by rfl) sc_law_is_met.nd (pi_tup (pe_tup (pa_cons (pv 4) (pa_cons (pe_ix ix_tup (pv 1) pe_int (fun _ _ => rfl)) (pa_cons (pv 2) pa_nil))))) (blkOk_by (own := [("some", 8)]) (N := ["letters", "condition", "text", "word", "bound", "low", "high", "mine", "some", "one"]) (sc := defScope s_law_is_met) (by decide +kernel)) (fun _ _ _ _ _ => (pg_name (i := 8) sc_law_is_met.nd rfl (Or.inl rfl))) (fun _ _ _ _ _ => pts_nil) (fun _ _ _ _ _ => by exact (pe_lc (own := [("one", 9)]) (g := (gName 9)) (tt := tYes) (by rfl) sc_law_is_met.nd (pi_str (pv 8)) (blkOk_by (own := [("one", 9)]) (N := ["letters", "condition", "text", "word", "bound", "low", "high", "mine", "some", "one"]) (sc := { kind := ScopeKind.function, names := [(".0", NameKind.local), ("some", NameKind.local), ("letters", NameKind.cell)], isGenerator := false, isCoroutine := false }) (by decide +kernel)) (fun _ _ _ _ _ => (pg_name (i := 9) sc_law_is_met.nd rfl (Or.inl rfl))) (fun _ _ _ _ _ => pts_nil) (fun _ _ _ _ _ => by exact (pe_m1 PySem.F.slot_str_index PySem.F.type_str_index mt_sindex (pv 0) (pv 9)))))) (pg_lst (by rfl) (pgs_cons (pg_name (i := 5) sc_law_is_met.nd rfl (Or.inl rfl)) (pgs_cons (pg_name (i := 6) sc_law_is_met.nd rfl (Or.inl rfl)) (pgs_cons (pg_name (i := 7) sc_law_is_met.nd rfl (Or.inl rfl)) pgs_nil))))) (pss_one (ps_ret (pe_chain (op_leL (units0 hr)) (op_leL (units0 hr)) (pv 5) (pv 7) (pv 6))))))))), ?_⟩
    cases c with
    | eq b t =>
      refine ⟨_, rfl, _, rfl, a, _, rfl, ha, fun _ => ⟨a, _, rfl, ha, rfl, _, _, rfl, _, _, rfl, rfl, ?_⟩, fun w => absurd ⟨rfl, rfl⟩ w⟩
      dsimp only
      refine ⟨_, rfl, rfl, _, rfl, ?_⟩
      cases b with
      | false =>
        refine iteD1 (by decide +kernel) ⟨_, rfl, _, rfl, rfl, ?_⟩
        rw [strS_dec]
        exact q _ (Same.refl _)
      | true =>
        refine iteD0 (by decide +kernel) ⟨_, rfl, rfl, _, rfl, ?_⟩
        refine iteD1 (by decide +kernel) ⟨_, rfl, _, rfl, S t, rfl, S_line (Nat.le_trans hc.1 (by decide)), _, rfl, S x, rfl, ?_, _, rfl, rfl, ?_⟩
        · rw [S_len]; exact Nat.le_trans hx (by decide)
        · rw [S_len, cutS_head, strS_dec]
          exact q _ (Same.refl _)
    | like t =>
      refine ⟨_, rfl, _, rfl, a, _, rfl, ha, fun _ => ⟨a, _, rfl, ha, rfl, _, _, rfl, _, _, rfl, rfl, ?_⟩, fun w => absurd ⟨rfl, rfl⟩ w⟩
      dsimp only
      refine ⟨_, rfl, rfl, _, rfl, iteD0 (by decide +kernel) ⟨_, rfl, rfl, _, rfl, iteD0 (by decide +kernel) ⟨_, rfl, rfl, _, rfl, ?_⟩⟩⟩
      exact iteD1 (by decide +kernel) ⟨_, rfl, _, rfl, t, x, rfl, Nat.lt_succ_of_le hc.1, Nat.le_trans hc.1 (by decide), hx, q⟩
    | btw b e =>
      refine ⟨_, rfl, _, rfl, a, _, rfl, ha, fun w => absurd w.2 (by show ¬ HT.sIx 3 3 (some 2) = 3; decide), fun _ p hp => ⟨p, _, rfl, SqT.of upd_same, rfl, _, _, rfl, _, _, rfl, rfl, ?_⟩⟩
      dsimp only
      refine ⟨_, rfl, rfl, _, rfl, iteD0 (by decide +kernel) ⟨_, rfl, rfl, _, rfl, iteD0 (by decide +kernel) ⟨_, rfl, rfl, _, rfl, iteD0 (by decide +kernel) ?_⟩⟩⟩
      have ha2 := SqT.same (same_upd (o := .tup [V.str "between", V.str (S b)]) hp) ha
      refine ⟨_, rfl, _, rfl, a, _, 2, _, rfl, rfl, ha2, rfl, _, rfl, by show 3 ≤ sizeLine; decide, fun u hu => ⟨u, rfl, ⟨_, SqT.of upd_same⟩, fun D hD => ?_⟩⟩
      refine lc_rel (walk_tup (xs := [b, e, x].map fun t => V.str (S t))) (fun j v H' => ∃ l t, v = .ref l ∧ [b, e, x][j]? = some t ∧ SqL K H' l ((ranks (ix (zs z)) t).map V.int)) (fun j v H H' s ⟨l, t, h1, h2, h3⟩ => ⟨l, t, h1, h2, s.seq h3⟩) hD (by show 3 < sizeLine; decide) (fun H' s' => SqT.same s' (SqT.of upd_same)) ?_ ?_
      · rintro i y H1 H2 hi sm ⟨o, hd⟩ ⟨rfl, hy⟩ kk
        obtain ⟨t, ht, rfl⟩ : ∃ t, [b, e, x][i]? = some t ∧ y = V.str (S t) := by
          rw [List.getElem?_map] at hy
          cases h : [b, e, x][i]? with
          | none => rw [h] at hy; cases hy
          | some t => rw [h] at hy; exact ⟨t, rfl, (Option.some.inj hy).symm⟩
        have tz : t.length ≤ 1000 ∧ ∀ d ∈ t, d ∈ zs z := by
          have hm := List.mem_of_getElem? ht
          simp only [List.mem_cons, List.not_mem_nil, or_false] at hm
          rcases hm with rfl | rfl | rfl
          · exact ⟨Nat.le_trans hc.1.1 (by decide), hc.1.2⟩
          · exact ⟨Nat.le_trans hc.2.1 (by decide), hc.2.2⟩
          · exact ⟨hx, hxz⟩
        refine ⟨rfl, ?_⟩
        refine yes_go (iteT ⟨_, rfl, S t, rfl, fun D2 hD2 => ?_⟩)
        have ts : (S t).cps.size = t.length := S_len t
        refine lc_rel (walk_str (z := S t)) (fun j v _ => ∃ c, t[j]? = some c ∧ v = .int ((ix (zs z) c : Nat) : Int)) (fun _ _ _ _ _ h => h) hD2 (by rw [ts]; exact Nat.lt_of_le_of_lt tz.1 (by decide)) (fun _ _ => trivial) ?_ ?_
        · rintro i2 y2 H5 H6 hi2 sm2 ⟨o2, hd2⟩ ⟨rfl, c, hcc, rfl⟩ kk2
          have hct : t[i2]? = some c := by have := str_at hcc; rwa [zs_S] at this
          refine ⟨rfl, ?_⟩
          unfold tYes
          exact iteT ⟨_, rfl, ⟨_, rfl⟩, _, rfl, z, S [c], ix (zs z) c, [], rfl, rfl, l8_index z hz c (tz.2 c (List.mem_of_getElem? hct)), kk2 _ _ (Same.refl _) ⟨c, hct, rfl⟩⟩
        · intro H5 ys sm2 hx1 hn1 hv1
          have e1 : ys = (ranks (ix (zs z)) t).map V.int := by
            refine List.ext_getElem? fun j => ?_
            rw [List.map_map, List.getElem?_map]
            cases h : ys[j]? with
            | none =>
              have q1 : ys.length ≤ j := List.getElem?_eq_none_iff.mp h
              rw [List.getElem?_eq_none (by omega)]
              rfl
            | some v =>
              obtain ⟨c, h1, h2⟩ := hv1 j v h
              rw [h1, h2]
              rfl
          have nd : D2 ≠ D := fun h => by rw [h, hd] at hD2; cases hD2
          refine kk _ _ sm2 ⟨D2, t, rfl, ht, .inl (.inl ?_)⟩
          rw [hid_out (by simpa using nd), hx1, e1]
      · intro H1 ys sm hx1 hn1 hv
        match ys, hn1, hx1, hv with
        | [y1, y2, y3], _, hx1, hv =>
          obtain ⟨l1, t1, rfl, e1, h1⟩ := hv 0 y1 rfl
          obtain ⟨l2, t2, rfl, e2, h2⟩ := hv 1 y2 rfl
          obtain ⟨l3, t3, rfl, e3, h3⟩ := hv 2 y3 rfl
          cases e1
          cases e2
          cases e3
          have g1 := (hid_sub [D] H1).seq h1
          have g2 := (hid_sub [D] H1).seq h2
          have g3 := (hid_sub [D] H1).seq h3
          have sq : Same H H1 := ((same_upd hp).trans (same_upd hu)).trans sm
          refine ⟨D, _, rfl, SqL.of hx1, rfl, _, _, rfl, _, _, rfl, _, _, rfl, rfl, ?_⟩
          dsimp only
          refine ⟨_, rfl, _, rfl, l1, l3, _, _, rfl, rfl, g1, g3, _, rfl, ?_⟩
          rw [List.length_map, List.length_map]
          have f1 := lex_leR (ix (zs z)) b x 0 0
          have f2 := lex_leR (ix (zs z)) x e 0 0
          simp only [Nat.add_zero] at f1 f2
          rw [f1]
          have q := q _ sq
          rw [show isMet (ix (zs z)) (.btw b e) x = (leR (ix (zs z)) b x && leR (ix (zs z)) x e) from rfl] at q
          cases hb : leR (ix (zs z)) b x with
          | false => exact iteF (by rw [hb, Bool.false_and] at q; exact q)
          | true =>
            refine iteT ⟨_, rfl, l3, l2, _, _, rfl, rfl, g3, g2, ?_⟩
            rw [List.length_map, List.length_map, f2]
            rw [hb, Bool.true_and] at q
            exact q
end
end K3
set_option Elab.async false
set_option linter.all false
set_option maxRecDepth 100000
set_option maxHeartbeats 4000000
namespace K3
open PySem PySem.Spec PyProof.Rows L2 FX
section
variable {P : Program} {w : World} {K : PySem.W.Frag} {mg : Str → Option Value} {base : Heap} {A : Ad}
theorem zs_signs (z : Str) : zs (z ++ Str.ofString "?*") = zs z ++ [63, 42] := zs_app z _
theorem sign_at {z : Str} (hz : z ∈ L8) (r : Int) : ∃ c, (c ∈ zs z ∨ c = 63 ∨ c = 42) ∧ atI (z ++ Str.ofString "?*").cps.toList (r % ((z ++ Str.ofString "?*").length : Int)) = some c := by
  have hl : (z ++ Str.ofString "?*").length = z.length + 2 := len_app z _
  have m0 : 0 ≤ r % ((z ++ Str.ofString "?*").length : Int) := Int.emod_nonneg _ (by omega)
  have m1 : r % ((z ++ Str.ofString "?*").length : Int) < (z ++ Str.ofString "?*").length := Int.emod_lt_of_pos _ (by omega)
  obtain ⟨j, hj⟩ : ∃ j : Nat, r % ((z ++ Str.ofString "?*").length : Int) = (j : Int) := ⟨(r % ((z ++ Str.ofString "?*").length : Int)).toNat, by omega⟩
  have hjl : j < (zs (z ++ Str.ofString "?*")).length := by rw [zs_length]; omega
  refine ⟨(zs (z ++ Str.ofString "?*"))[j], ?_, ?_⟩
  · have := List.getElem_mem hjl
    generalize (zs (z ++ Str.ofString "?*"))[j] = d at this ⊢
    rw [zs_signs, List.mem_append] at this
    rcases this with h | h
    · exact .inl h
    · simp only [List.mem_cons, List.not_mem_nil, or_false] at h
      exact .inr h
  · rw [hj]
    exact atI_nat (List.getElem?_eq_getElem hjl)
def sp_lcondition (K : PySem.W.Frag) : Sp := fun vs H Q _ => ∃ (a : Addr) (ns : List Int) (k : Int) (z : Str), vs = [.ref a, .int k, .str z] ∧ Scr K H a ns ∧ 0 ≤ k ∧ k ≤ 1000 ∧ z ∈ L8 ∧
  ∀ t c H', Same H H' → CondOk (zs z) c → SqT K H' t (condV c) → Q (.ref t) H'
theorem five_at : ∀ j : Nat, j < 5 → ∃ k, ([("equal" : Str), "begins", "between", "like", "like"][j]?) = some k ∧ k ∈ kinds
  | 0, _ => ⟨_, rfl, by decide +kernel⟩
  | 1, _ => ⟨_, rfl, by decide +kernel⟩
  | 2, _ => ⟨_, rfl, by decide +kernel⟩
  | 3, _ => ⟨_, rfl, by decide +kernel⟩
  | 4, _ => ⟨_, rfl, by decide +kernel⟩
  | n + 5, h => absurd h (by omega)
theorem ok_law_condition (T : Txt K mg A) : FnOk P w K mg base CX0 3 A.a_law_condition A.d_law_condition ["script", "at", "letters"] (sp_lcondition K) := by
  refine T.f_law_condition.F.ok sc_law_condition (fun vs H Q E h => ?_) (fun cdv Ar outer s H vs Q E hr h => ?_)
  · obtain ⟨a, ns, k, z, rfl, _⟩ := h
    rfl
  · obtain ⟨a, ns, k, z, rfl, hS, k0, k1, hz, q⟩ := h
    refine ⟨_, (pss_cons (ps_set (i := 3) sc_law_condition.nd rfl (Or.inl rfl) (pe_callTy call_int1 (by rfl) T.n_int (by decide +kernel) (pa_cons (pe_call (ok_law_number T) (hr.mono (by decide)) (by rfl) T.f_law_number.g T.f_law_number.F.kp T.f_law_number.b .nil pass0 (pa_cons (pv 0) (pa_cons (pv 1) pa_nil))) pa_nil))) (pss_cons (ps_set (i := 4) sc_law_condition.nd rfl (Or.inl rfl) (pe_ix ix_tup (pe_tup (pa_cons pe_str (pa_cons pe_str (pa_cons pe_str (pa_cons pe_str (pa_cons pe_str pa_nil)))))) (pe_op op_mod (pe_callTy call_int1 (by rfl) T.n_int (by decide +kernel) (pa_cons (pv 3) pa_nil)) pe_int) (fun _ _ => rfl))) (pss_cons (ps_if (pt_cmpR op_eq (pv 4) pe_str (nomark _)) (pss_cons (ps_par (i := 5) (j := 6) (by rfl) sc_law_condition.nd rfl rfl (by decide) rfl rfl (pa_cons (pe_op op_add_str (pv 2) pe_str) (pa_cons pe_str pa_nil)) (by rfl)) (pss_cons (ps_for PassesOwn.never rfl (pi_range1 (by rfl) T.n_range (pa_cons (pe_op op_mod (pe_callTy call_int1 (by rfl) T.n_int (by decide +kernel) (pa_cons (pe_op op_fdiv (pv 3) pe_int) pa_nil)) pe_int) pa_nil)) (pg_name (i := 7) sc_law_condition.nd rfl (Or.inl rfl)) (pss_one (ps_set (i := 6) sc_law_condition.nd rfl (Or.inl rfl) (pe_op op_add_str (pv 6) (pe_ix ix_str (pv 5) (pe_op op_mod (pe_callTy call_int1 (by rfl) T.n_int (by decide +kernel) (pa_cons (pe_op op_fdiv (pv 3) (pe_op op_add pe_int (pe_op op_mul pe_int (pv 7)))) pa_nil)) (pe_callB call_len_str (by rfl) T.n_len (by decide +kernel) (pa_cons (pv 5) pa_nil))) (fun _ _ => rfl)))))) (pss_one (ps_ret (pe_tup (pa_cons (pv 4) (pa_cons (pv 6) pa_nil))))))) pss_nil) (pss_cons (ps_set (i := 8) sc_law_condition.nd rfl (Or.inl rfl) (pe_lst (pa_cons (pe_call (ok_law_value T) (hr.mono (by decide)) (by rfl) T.f_law_value.g T.f_law_value.F.kp T.f_law_value.b .nil pass0 (pa_cons (pv 0) (pa_cons (pe_op op_add (pv 1) pe_int) (pa_cons (pv 2) (pa_cons pe_int pa_nil))))) (pa_cons (pe_call (ok_law_value T) (hr.mono (by decide)) (by rfl) T.f_law_value.g T.f_law_value.F.kp T.f_law_value.b .nil pass0 (pa_cons (pv 0) (pa_cons (pe_op op_add (pv 1) pe_int) (pa_cons (pv 2) (pa_cons pe_int pa_nil))))) pa_nil)))) (pss_one (ps_ret (pe_ifExp (pt_cmpR op_eq (pv 4) pe_str (nomark _)) (pe_tup (pa_cons (pv 4) (pa_cons (pe_ix ix_list (pv 8) pe_int (fun _ _ => rfl)) (pa_cons (pe_ix ix_list (pv 8) pe_int (fun _ _ => rfl)) pa_nil)))) (pe_tup (pa_cons (pv 4) (pa_cons (pe_ix ix_list (pv 8) pe_int (fun _ _ => rfl)) pa_nil)))))))))), ?_⟩
    refine ⟨_, rfl, _, rfl, a, ns, k, rfl, hS, k0, by omega, fun r H1 s1 r0 r1 => .inl ⟨_, rfl, ?_⟩⟩
    refine ⟨by show 5 ≤ sizeLine; decide, fun t ht => ⟨_, rfl, .inl ⟨_, rfl, _, _, rfl, rfl, pos5, ?_⟩⟩⟩
    have m0 : 0 ≤ r % 5 := Int.emod_nonneg _ (by decide)
    have m1 : r % 5 < 5 := Int.emod_lt_of_pos _ (by decide)
    obtain ⟨j, hj⟩ : ∃ j : Nat, r % 5 = (j : Int) := ⟨(r % 5).toNat, by omega⟩
    obtain ⟨kd, hk1, hk2⟩ := five_at j (by omega)
    refine ⟨t, _, _, .str kd, rfl, rfl, SqT.of upd_same, ?_, ?_⟩
    · rw [hj]
      refine atI_nat ?_
      show ([("equal" : Str), "begins", "between", "like", "like"].map V.str)[j]? = _
      rw [List.getElem?_map, hk1]
      rfl
    have sm : Same H (upd H1 t (.tup [V.str "equal", V.str "begins", V.str "between", V.str "like", V.str "like"])) := Same.up s1 ht
    have hS2 := hS.same sm
    refine ⟨_, rfl, rfl, _, rfl, ?_⟩
    rw [str_dec]
    by_cases kl : kd = "like"
    · rw [decide_eq_true kl]
      have hlz : (z ++ Str.ofString "?*").length = z.length + 2 := len_app z _
      have zl := l8_le hz
      have sl : (z ++ Str.ofString "?*").length ≤ sizeLine := by rw [hlz]; exact Nat.le_trans (show z.length + 2 ≤ 102 by omega) (by decide)
      refine iteT ⟨_, rfl, z, _, rfl, rfl, by rw [← len_app]; exact sl, ?_⟩
      have d0 : 0 ≤ r / 5 % 5 := Int.emod_nonneg _ (by decide)
      have d1 : r / 5 % 5 < 5 := Int.emod_lt_of_pos _ (by decide)
      refine ⟨_, _, rfl, _, rfl, _, _, rfl, rfl, ⟨by decide, by decide⟩, .inl ⟨_, rfl, _, _, rfl, rfl, pos5, _, rfl, by omega, by omega, ?_⟩⟩
      refine for_range (lo := 0) (n := (r / 5 % 5).toNat) (fun i σ H' => Same H H' ∧ ∃ tx o, σ = [some (.ref a), some (.int k), some (.str z), some (.int r), some (.str kd), some (.str (z ++ Str.ofString "?*")), some (.str (S tx)), o, none] ∧ tx.length = i ∧ ∀ d ∈ tx, d ∈ zs z ∨ d = 63 ∨ d = 42)
        ⟨sm, [], none, rfl, rfl, fun d hd => by cases hd⟩ ?_ ?_
      · rintro i σ H2 hi ⟨sm2, tx, o, rfl, hx, hxz⟩
        obtain ⟨c, hc1, hc2⟩ := sign_at hz (r / (30 + 7 * (0 + (i : Int))))
        refine ⟨_, rfl, _, rfl, _, rfl, _, rfl, _, _, rfl, rfl, .inl ⟨by decide, by decide⟩, _, _, rfl, rfl, _, _, rfl, rfl, ⟨by omega, by omega⟩, .inl ⟨_, rfl, _, rfl, (z ++ Str.ofString "?*"), rfl, sl, _, _, rfl, rfl, by omega, (z ++ Str.ofString "?*"), _, c, rfl, rfl, sl, hc2, S tx, _, rfl, rfl, ?_, sm2, tx ++ [c], some (.int ((0 : Int) + (i : Int))), ?_, ?_, ?_⟩⟩
        · rw [S_len, hx]
          exact Nat.le_trans (show i + 1 ≤ 200 by omega) (by decide)
        · rw [S_app]
          rfl
        · rw [List.length_append, hx]
          rfl
        · intro d hd
          rcases List.mem_append.mp hd with h | h
          · exact hxz d h
          · obtain rfl := List.mem_singleton.mp h
            exact hc1
      · rintro σ H2 ⟨sm2, tx, o, rfl, hx, hxz⟩
        subst kl
        exact ⟨_, rfl, _, rfl, by show 2 ≤ sizeLine; decide, fun u hu => q u (.like tx) _ (Same.up sm2 hu) ⟨by omega, hxz⟩ (SqT.of upd_same)⟩
    · rw [decide_eq_false kl]
      refine iteF ?_
      refine ⟨_, rfl, _, rfl, _, _, rfl, rfl, _, rfl, a, ns, k + 1, z, 4, rfl, hS2, by omega, by omega, hz, by decide, fun x1 H2 s2 l1 c1 => ?_⟩
      refine ⟨_, rfl, _, rfl, _, _, rfl, rfl, _, rfl, a, ns, k + 2, z, 4, rfl, hS2.same s2, by omega, by omega, hz, by decide, fun x2 H3 s3 l2 c2 => ?_⟩
      refine ⟨by show 2 ≤ sizeLine; decide, fun L hL => ⟨_, rfl, rfl, _, rfl, ?_⟩⟩
      rw [str_dec]
      have sm3 : Same H (upd H3 L (.lst [.str x1, .str x2])) := Same.up ((sm.trans s2).trans s3) hL
      have hx1 : (zs x1).length ≤ 4 := by rw [zs_length]; exact l1
      have hx2 : (zs x2).length ≤ 4 := by rw [zs_length]; exact l2
      by_cases kb : kd = "between"
      · rw [decide_eq_true kb]
        subst kb
        refine iteT ⟨_, rfl, _, rfl, L, _, 0, _, rfl, rfl, SqL.of upd_same, rfl, _, rfl, L, _, 1, _, rfl, rfl, SqL.of upd_same, rfl, by show 3 ≤ sizeLine; decide, fun u hu => q u (.btw (zs x1) (zs x2)) _ (Same.up sm3 hu) ⟨⟨hx1, c1⟩, ⟨hx2, c2⟩⟩ (SqT.of ?_)⟩
        rw [upd_same]
        show _ = some (HO.tup [_, .str (S (zs x1)), .str (S (zs x2))])
        rw [S_zs, S_zs]
      · rw [decide_eq_false kb]
        refine iteF ⟨_, rfl, _, rfl, L, _, 0, _, rfl, rfl, SqL.of upd_same, rfl, by show 2 ≤ sizeLine; decide, fun u hu => q u (.eq (decide (kd = "begins")) (zs x1)) _ (Same.up sm3 hu) ⟨hx1, c1⟩ (SqT.of ?_)⟩
        rw [upd_same]
        show _ = some (HO.tup [.str _, .str (S (zs x1))])
        rw [S_zs]
        simp only [kinds, List.mem_cons, List.not_mem_nil, or_false] at hk2
        rcases hk2 with rfl | rfl | rfl | rfl
        · rfl
        · rfl
        · exact absurd rfl kb
        · exact absurd rfl kl
end
end K3
set_option Elab.async false
set_option linter.all false
set_option maxRecDepth 100000
set_option maxHeartbeats 4000000
namespace FX
open PySem PySem.Spec PyProof.Rows L2
/-- x not in a tuple of data -/
def rNotInT (K : PySem.W.Frag) : R2 := fun x y H Q => ∃ (e : PyData) (es : List PyData), Dp K H x e ∧ Dp K H y (.tuple es) ∧ SeqAt.shaped e = true ∧ SeqAt.shaped (.tuple es) = true ∧ Q (.bl (!es.any fun u => PyData.eqv u e)) H
theorem op_notInT {X : Cx} (room : X.A.units + 65 < cLine) : OpR X (compareOp .NotIn) (rNotInT X.K) := by
  intro pn st σ H x y vx vy Q I hx hy hw
  obtain ⟨e, es, dx, dy, ox, oy, fin⟩ := hw
  obtain ⟨ax, gx⟩ := Dp.reads I e x vx dx hx
  obtain ⟨ay, gy⟩ := Dp.reads I (.tuple es) y vy dy hy
  exact SeqAt.notIn_tuple_reads gy gx (SeqAt.canLay_of_shaped oy) (SeqAt.canLay_of_shaped ox) (room_in_shaped ox room) ⟨.bl _, H, I, rfl, fin⟩
end FX
namespace K3
open PySem PySem.Spec PyProof.Rows L2 FX
section
variable {P : Program} {w : World} {K : PySem.W.Frag} {mg : Str → Option Value} {base : Heap} {A : Ad}
def kindsD : List PyData := [.str "equal", .str "begins", .str "between", .str "like"]
theorem kinds_any : ∀ d : PyData, (kindsD.any fun u => PyData.eqv u d) = (match d with | .str k => decide (k ∈ kinds) | _ => false)
  | .str k => by
    show _ = decide (k ∈ kinds)
    rw [← kinds_in k]
    simp only [kindsD, List.any_cons, List.any_nil, PyData.eqv]
    rfl
  | .none => by simp [kindsD, PyData.eqv]
  | .bool b => by simp [kindsD, PyData.eqv]
  | .int i => by simp [kindsD, PyData.eqv]
  | .list l => by simp [kindsD, PyData.eqv]
  | .tuple l => by simp [kindsD, PyData.eqv]
  | .dict l => by simp [kindsD, PyData.eqv]
def sp_lis_condition (K : PySem.W.Frag) : Sp := fun vs H Q _ => ∃ (z : Str) (v : V) (d : PyData), vs = [.str z, v] ∧ z.length ≤ 100 ∧ Dp K H v d ∧ smallC d ∧ (∀ d0 ts, d = .tuple (d0 :: ts) → SeqAt.shaped d0 = true) ∧ ∀ H', Same H H' → Q (.bl (condB z d)) H'
theorem ok_law_is_condition (T : Txt K mg A) : FnOk P w K mg base CX0 1 A.a_law_is_condition A.d_law_is_condition ["letters", "thing"] (sp_lis_condition K) := by
  refine T.f_law_is_condition.F.ok sc_law_is_condition (fun vs H Q E h => ?_) (fun cdv Ar outer s H vs Q E hr h => ?_)
  · obtain ⟨z, v, d, rfl, _⟩ := h
    rfl
  · obtain ⟨z, v, d, rfl, hz, hd, hs, hsh, q⟩ := h
    refine ⟨_, (pss_cons (ps_if (PW.pt (pw_or (pt_not (pt_val (pe_callB call_isi (by rfl) T.n_isinstance (by decide +kernel) (pa_cons (pv 1) (pa_cons (pe_bltn (v := .ty "tuple") (by rfl) T.n_tuple (by decide +kernel) rfl) pa_nil))))) (pw_or (pt_cmpR op_lt (pe_callB call_len_seq (by rfl) T.n_len (by decide +kernel) (pa_cons (pv 1) pa_nil)) pe_int (nomark _)) (pw_or1 (pt_cmpR (op_notInT (units1 hr)) (pe_ix ix_tup (pv 1) pe_int (fun _ _ => rfl)) (pe_tup (pa_cons pe_str (pa_cons pe_str (pa_cons pe_str (pa_cons pe_str pa_nil))))) (by rfl)))))) (pss_one (ps_ret pe_bl)) pss_nil) (pss_cons (ps_if (pt_cmpR op_ne (pe_callB call_len_seq (by rfl) T.n_len (by decide +kernel) (pa_cons (pv 1) pa_nil)) (pe_ifExp (pt_cmpR op_eq (pe_ix ix_tup (pv 1) pe_int (fun _ _ => rfl)) pe_str (nomark _)) pe_int pe_int) (nomark _)) (pss_one (ps_ret pe_bl)) pss_nil) (pss_cons (ps_set (i := 2) sc_law_is_condition.nd rfl (Or.inr rfl) (pe_ifExp (pt_cmpR op_eq (pe_ix ix_tup (pv 1) pe_int (fun _ _ => rfl)) pe_str (nomark _)) (pe_op op_add_str (pv 0) pe_str) (pv 0))) (pss_cons (ps_for PassesOwn.never rfl (pi_tup (pe_slice sl_tupA (pv 1) (po_some pe_int) po_none)) (pg_name (i := 3) sc_law_is_condition.nd rfl (Or.inl rfl)) (pss_one (ps_if (PW.pt (pw_or (pt_not (pt_val (pe_callB call_isi (by rfl) T.n_isinstance (by decide +kernel) (pa_cons (pv 3) (pa_cons (pe_bltn (v := .ty "str") (by rfl) T.n_str (by decide +kernel) rfl) pa_nil))))) (pw_or (pt_cmpR op_gt (pe_callB call_len_str (by rfl) T.n_len (by decide +kernel) (pa_cons (pv 3) pa_nil)) pe_int (nomark _)) (pw_or1 (pt_not (pt_val (pe_callB (cr_all rfl) (by rfl) T.n_all (by decide +kernel) (pa_cons (pe_lc (own := [("sign", 4)]) (g := (gName 4)) (tt := tYes) (by rfl) sc_law_is_condition.nd (pi_str (pv 3)) (blkOk_by (own := [("sign", 4)]) (N := ["letters", "thing", "signs", "text", "sign"]) (sc := defScope s_law_is_condition) (by decide +kernel)) (fun _ _ _ _ _ => (pg_name (i := 4) sc_law_is_condition.nd rfl (Or.inl rfl))) (fun _ _ _ _ _ => pts_nil) (fun _ _ _ _ _ => by exact (pe_cmpR op_in_sign (pv 4) (pv 2) rfl))) pa_nil)))))))) (pss_one (ps_ret pe_bl)) pss_nil))) (pss_one (ps_ret pe_bl)))))), ?_⟩
    obtain ⟨t, h1, h2⟩ := Dp.isB hd (c := "tuple") (by decide)
    refine ⟨_, rfl, _, _, t, _, _, rfl, .ty _, h1, h2, _, rfl, ?_⟩
    cases hd with
    | tup hq ha =>
      rename_i a xs ds
      have hlz : xs.length = ds.length := DpAll.len ha
      refine iteF ⟨_, rfl, a, xs, rfl, .inr hq, _, _, rfl, rfl, _, rfl, ?_⟩
      by_cases n2 : ds.length < 2
      · rw [show decide ((xs.length : Int) < 2) = true from decide_eq_true (by omega)]
        exact iteT (by have := q _ (Same.refl _); rwa [cond_no (fun h => by omega)] at this)
      · rw [show decide ((xs.length : Int) < 2) = false from decide_eq_false (by omega)]
        cases ha with
        | nil => exact absurd (by simp) n2
        | @cons v0 xs' d0 ds' h0 h' =>
        refine iteF ⟨_, rfl, a, v0 :: xs', 0, v0, rfl, rfl, hq, atI_zero, by show 4 ≤ sizeLine; decide, fun p hp => ?_⟩
        have s1 : Same H (upd H p (.tup [V.str "equal", V.str "begins", V.str "between", V.str "like"])) := same_upd hp
        refine ⟨d0, kindsD, Dp.same s1 h0, Dp.tupNew upd_same (.cons (.str _) (.cons (.str _) (.cons (.str _) (.cons (.str _) .nil)))), hsh _ _ rfl, by decide +kernel, _, rfl, ?_⟩
        rw [kinds_any]
        have hq := SqT.same s1 hq
        cases h0 with
        | non => exact iteT (q _ s1)
        | bl b => exact iteT (q _ s1)
        | int i => exact iteT (q _ s1)
        | lst hs ha => exact iteT (q _ s1)
        | tup hs ha => exact iteT (q _ s1)
        | str k =>
          dsimp only
          rw [show condB z (.tuple (.str k :: ds')) = condTs z k ds' from rfl] at q
          cases hk : decide (k ∈ kinds) with
          | false => exact iteT (by have := q _ s1; rwa [show condTs z k ds' = false by unfold condTs; rw [hk, Bool.false_and]] at this)
          | true =>
            refine iteF ?_
            unfold tNext
            dsimp only
            generalize upd H p (.tup [V.str "equal", V.str "begins", V.str "between", V.str "like"]) = H2 at s1 hq
            have hlx : xs'.length = ds'.length := by simpa using hlz
            have hd' := DpAll.same s1 h'
            refine seq_cut (fun σ1 H1 => σ1 = [some (.str z), some (.ref a), none, none, none] ∧ H1 = H2 ∧ ds'.length = if k = "between" then 2 else 1) ?_ ?_
            · rintro _ H2 ⟨rfl, rfl, hn⟩
              refine seq_cut (fun σ1 H1 => σ1 = [some (.str z), some (.ref a), some (.str (signsOf z k)), none, none] ∧ H1 = H2) ?_ ?_
              · rintro _ H2 ⟨rfl, rfl⟩
                have bad : ∀ j d, ds'[j]? = some d → (isValD (signsOf z k) d && le4 d) = false → condTs z k ds' = false := fun j d hj hd => by
                  unfold condTs
                  rw [show (ds'.all fun d => isValD (signsOf z k) d && le4 d) = false by
                    rw [List.all_eq_false]
                    exact ⟨d, List.mem_of_getElem? hj, by rw [hd]; exact Bool.false_ne_true⟩, Bool.and_false, Bool.and_false]
                refine ⟨_, rfl, _, rfl, a, _, rfl, hq, fun h => absurd h.1 (by rw [List.length_cons, sIx_one]; decide), fun _ p2 hp2 => ⟨p2, rfl, ⟨_, SqT.of upd_same⟩, ?_⟩⟩
                rw [cut_tail]
                refine for_it (walk_tup (xs := xs')) (fun i σ H' => Same (upd H2 p2 (.tup xs')) H' ∧ ∃ o3 o4, σ = [some (.str z), some (.ref a), some (.str (signsOf z k)), o3, o4] ∧ ∀ j d, j < i → ds'[j]? = some d → (isValD (signsOf z k) d && le4 d) = true)
                  ⟨Same.refl _, none, none, rfl, fun j d h => absurd h (Nat.not_lt_zero _)⟩ (fun i σ H' _ g => SqT.same g.1 (SqT.of upd_same)) ?_ ?_
                · rintro i y σ H5 H6 hi ⟨sm, o3, o4, rfl, hall⟩ ⟨rfl, hy⟩
                  have s3 : Same H H6 := (Same.up s1 hp2).trans sm
                  obtain ⟨d, hd1, hd2⟩ := DpAll.get' (DpAll.same ((same_upd hp2).trans sm) hd') hy
                  have hsd : small d := hs.2 d (List.mem_cons_of_mem _ (List.mem_of_getElem? hd1))
                  obtain ⟨t2, g1, g2⟩ := Dp.isB hd2 (c := "str") (by decide)
                  refine ⟨_, rfl, _, _, t2, _, _, rfl, .ty _, g1, g2, _, rfl, ?_⟩
                  have no : (isValD (signsOf z k) d && le4 d) = false → ∀ H7, Same H6 H7 → Q (.bl false) H7 := fun h H7 s7 => by
                    have := q _ (s3.trans s7)
                    rwa [bad i d hd1 h] at this
                  cases hd2 with
                  | non => exact iteT (no rfl _ (Same.refl _))
                  | bl b => exact iteT (no rfl _ (Same.refl _))
                  | int i => exact iteT (no rfl _ (Same.refl _))
                  | lst hs ha => exact iteT (no rfl _ (Same.refl _))
                  | tup hs ha => exact iteT (no rfl _ (Same.refl _))
                  | str x =>
                    have lx : x.length ≤ 100000 := hsd
                    refine iteF ⟨_, rfl, x, rfl, Nat.le_trans lx (by decide), _, _, rfl, rfl, _, rfl, ?_⟩
                    by_cases l4 : x.length ≤ 4
                    · rw [decide_eq_false (by omega)]
                      refine iteF ⟨_, rfl, x, rfl, fun D hD => ?_⟩
                      refine lc_rel walk_str (fun j v _ => ∃ c, (zs x)[j]? = some c ∧ v = .bl (decide (c ∈ zs (signsOf z k)))) (fun _ _ _ _ _ h => h) hD (by show x.length < _; exact Nat.lt_of_le_of_lt l4 (by decide)) (fun _ _ => trivial) ?_ ?_
                      · rintro i2 y2 H7 H8 hi2 sm2 ⟨o, hd⟩ ⟨rfl, c, hc, rfl⟩ kk
                        refine ⟨rfl, ?_⟩
                        exact yes_go (iteT ⟨_, rfl, _, rfl, c, _, rfl, rfl, kk _ _ (Same.refl _) ⟨c, str_at hc, rfl⟩⟩)
                      · intro H7 ys sm2 hx1 hn1 hv
                        have e1 : ys = ((zs x).map fun c => decide (c ∈ zs (signsOf z k))).map V.bl := by
                          refine List.ext_getElem? fun j => ?_
                          rw [List.map_map, List.getElem?_map]
                          cases h : ys[j]? with
                          | none =>
                            have q1 : ys.length ≤ j := List.getElem?_eq_none_iff.mp h
                            rw [List.getElem?_eq_none (by rw [zs_length]; have : ys.length = x.length := hn1; omega)]
                            rfl
                          | some v =>
                            obtain ⟨c, h1, h2⟩ := hv j v h
                            rw [h1, h2]
                            rfl
                        refine ⟨D, _, rfl, .inl (.inl (by rw [hx1, e1])), _, rfl, ?_⟩
                        rw [show ((zs x).map fun c => decide (c ∈ zs (signsOf z k))).all id = isValD (signsOf z k) (.str x) by rw [List.all_map]; rfl]
                        cases hvd : isValD (signsOf z k) (.str x) with
                        | false => exact iteT (no (by rw [hvd]; rfl) _ sm2)
                        | true =>
                          refine iteF ⟨sm.trans sm2, _, _, rfl, fun j d hj hd => ?_⟩
                          by_cases hji : j = i
                          · subst hji
                            rw [hd1] at hd
                            cases hd
                            rw [hvd, Bool.true_and]
                            exact decide_eq_true l4
                          · exact hall j d (by omega) hd
                    · rw [decide_eq_true (by omega)]
                      exact iteT (no (by rw [show le4 (.str x) = false from decide_eq_false l4, Bool.and_false]) _ (Same.refl _))
                · rintro σ H5 ⟨sm, o3, o4, rfl, hall⟩
                  have := q _ ((Same.up s1 hp2).trans sm)
                  rw [show condTs z k ds' = true by
                    unfold condTs
                    rw [hk, decide_eq_true hn, Bool.true_and, Bool.true_and, List.all_eq_true]
                    intro d hd
                    obtain ⟨j, hj⟩ := List.getElem?_of_mem hd
                    exact hall j d (by rw [hlx]; exact (List.getElem?_eq_some_iff.mp hj).1) hj] at this
                  exact this
              · intro nx' kk
                refine ⟨_, rfl, a, _, 0, _, rfl, rfl, hq, atI_zero, rfl, _, rfl, ?_⟩
                rw [str_dec]
                by_cases kl : k = "like"
                · rw [decide_eq_true kl]
                  refine iteT ⟨_, rfl, z, _, rfl, rfl, ?_, kk _ _ ⟨?_, rfl⟩⟩
                  · exact Nat.le_trans (Nat.add_le_add_right hz 2) (by decide)
                  · unfold signsOf
                    rw [if_pos kl]
                    rfl
                · rw [decide_eq_false kl]
                  refine iteF ⟨_, rfl, kk _ _ ⟨?_, rfl⟩⟩
                  unfold signsOf
                  rw [if_neg kl]
                  rfl
            · intro nx' kk
              refine ⟨_, rfl, a, _, rfl, .inr hq, _, rfl, a, _, 0, _, rfl, rfl, hq, atI_zero, rfl, _, rfl, ?_⟩
              rw [str_dec]
              have bad : ds'.length ≠ (if k = "between" then 2 else 1) → Q (.bl false) H2 := fun h => by
                have := q _ s1
                rwa [show condTs z k ds' = false by unfold condTs; rw [hk, decide_eq_false h]; rfl] at this
              by_cases kb : k = "between"
              · rw [if_pos kb] at bad
                rw [decide_eq_true kb]
                refine iteT ⟨rfl, _, rfl, ?_⟩
                rw [dec_int, List.length_cons, hlx]
                by_cases e : ds'.length = 2
                · rw [show (!decide (((ds'.length + 1 : Nat) : Int) = 3)) = false by rw [e]; rfl]
                  exact iteF (kk _ _ ⟨rfl, rfl, by rw [if_pos kb]; exact e⟩)
                · rw [show (!decide (((ds'.length + 1 : Nat) : Int) = 3)) = true by rw [decide_eq_false (by omega)]; rfl]
                  exact iteT (bad e)
              · rw [if_neg kb] at bad
                rw [decide_eq_false kb]
                refine iteF ⟨rfl, _, rfl, ?_⟩
                rw [dec_int, List.length_cons, hlx]
                by_cases e : ds'.length = 1
                · rw [show (!decide (((ds'.length + 1 : Nat) : Int) = 2)) = false by rw [e]; rfl]
                  exact iteF (kk _ _ ⟨rfl, rfl, by rw [if_neg kb]; exact e⟩)
                · rw [show (!decide (((ds'.length + 1 : Nat) : Int) = 2)) = true by rw [decide_eq_false (by omega)]; rfl]
                  exact iteT (bad e)
    | str x => exact iteT (q _ (Same.refl _))
    | non => exact iteT (q _ (Same.refl _))
    | bl b => exact iteT (q _ (Same.refl _))
    | int i => exact iteT (q _ (Same.refl _))
    | lst hs ha => exact iteT (q _ (Same.refl _))
end
end K3
set_option Elab.async false
set_option linter.all false
set_option maxRecDepth 100000
set_option maxHeartbeats 4000000
namespace K3
open PySem PySem.Spec PyProof.Rows L2 FX
def Good (K : PySem.W.Frag) (H : Hp) (x : V) : Prop := ∃ d, Dp K H x d ∧ small d ∧ SeqAt.shaped d = true
theorem Good.same {K : PySem.W.Frag} {H H' : Hp} {x : V} (g : Good K H x) (s : Same H H') : Good K H' x := by
  obtain ⟨d, h1, h2⟩ := g
  exact ⟨d, Dp.same s h1, h2⟩
theorem good_all {K : PySem.W.Frag} {H : Hp} : ∀ {xs : List V}, (∀ x ∈ xs, Good K H x) → ∃ ds, DpAll K H xs ds ∧ ∀ d ∈ ds, small d ∧ SeqAt.shaped d = true
  | [], _ => ⟨[], .nil, fun d h => by cases h⟩
  | x :: xs, h => by
    obtain ⟨d, h1, h2⟩ := h x List.mem_cons_self
    obtain ⟨ds, g1, g2⟩ := good_all fun y hy => h y (List.mem_cons_of_mem _ hy)
    refine ⟨d :: ds, .cons h1 g1, fun e he => ?_⟩
    rcases List.mem_cons.mp he with rfl | he
    · exact h2
    · exact g2 e he
theorem cut_sub (xs : List V) (lo hi : Option Int) : ∀ x ∈ cutV xs lo hi, x ∈ xs := fun x hx => by
  unfold cutV at hx
  exact List.mem_of_mem_drop (List.mem_of_mem_take hx)
theorem cat_go {K : PySem.W.Frag} {H : Hp} {Q : VK} {a b : Addr} {xs ys : List V} (ha : SqT K H a xs) (hb : SqT K H b ys) (hl : xs.length + ys.length ≤ sizeLine)
    (q : ∀ t H', Same H H' → SqT K H' t (xs ++ ys) → Q (.ref t) H') : rCatA K (.ref a) (.ref b) H Q := by
  refine ⟨a, b, xs, ys, rfl, rfl, ha, hb, hl, fun e => ?_, fun _ e => ?_, fun _ _ p hp => ?_⟩
  · exact q b H (Same.refl _) (by rw [e, List.nil_append]; exact hb)
  · exact q a H (Same.refl _) (by rw [e, List.append_nil]; exact ha)
  · exact q p _ (same_upd hp) (SqT.of upd_same)
theorem slice_go {K : PySem.W.Frag} {H : Hp} {Q : VK} {a : Addr} {xs : List V} {lo hi : Option Int} (ha : SqT K H a xs)
    (q : ∀ t H', Same H H' → SqT K H' t (cutV xs lo hi) → Q (.ref t) H') : rSlA K (.ref a) lo hi H Q := by
  refine ⟨a, xs, rfl, ha, fun w => ?_, fun _ p hp => ?_⟩
  · refine q a H (Same.refl _) ?_
    unfold cutV
    rw [w.1, w.2, List.drop_zero, Nat.sub_zero, List.take_length]
    exact ha
  · exact q p _ (same_upd hp) (SqT.of upd_same)
theorem shaped_str {x : Str} (h : ∀ c ∈ zs x, c < 0x110000) : SeqAt.shaped (.str x) = true := by
  refine shaped_of ?_ (by simp [PyData.depth])
  show PyData.strOk x = true
  unfold PyData.strOk
  rw [Array.all_eq_true']
  exact fun c hc => decide_eq_true (h c (by simpa [zs] using hc))
theorem l8_small : ∀ z ∈ L8, ∀ c ∈ zs z, c < 0x110000 := by decide +kernel
theorem cond_good {K : PySem.W.Frag} {H : Hp} {z : Str} {c : Cond} (hz : z ∈ L8) (h : CondOk (zs z) c) : ∀ x ∈ condV c, Good K H x := by
  have s4 : ∀ {t : List Nat}, t.length ≤ 4 → (∀ d ∈ t, d ∈ zs z ∨ d = 63 ∨ d = 42) → Good K H (.str (S t)) := fun h g => ⟨_, .str _, by show (S _).length ≤ 100000; rw [S_len]; omega, shaped_str fun c hc => by
    rw [zs_S] at hc
    rcases g c hc with h | rfl | rfl
    · exact l8_small z hz c h
    · decide
    · decide⟩
  have kk : ∀ k ∈ kinds, Good K H (.str k) := by
    intro k hk
    simp only [kinds, List.mem_cons, List.not_mem_nil, or_false] at hk
    refine ⟨_, .str _, ?_, shaped_str ?_⟩
    · show k.length ≤ 100000
      rcases hk with rfl | rfl | rfl | rfl <;> decide +kernel
    · rcases hk with rfl | rfl | rfl | rfl <;> decide +kernel
  intro x hx
  cases c with
  | eq b t =>
    rcases List.mem_cons.mp hx with rfl | hx
    · cases b
      · exact kk _ (by simp [kinds])
      · exact kk _ (by simp [kinds])
    · obtain rfl := List.mem_singleton.mp hx
      exact s4 h.1 fun d hd => .inl (h.2 d hd)
  | btw a b =>
    rcases List.mem_cons.mp hx with rfl | hx
    · exact kk _ (by simp [kinds])
    · rcases List.mem_cons.mp hx with rfl | hx
      · exact s4 h.1.1 fun d hd => .inl (h.1.2 d hd)
      · obtain rfl := List.mem_singleton.mp hx
        exact s4 h.2.1 fun d hd => .inl (h.2.2 d hd)
  | like t =>
    rcases List.mem_cons.mp hx with rfl | hx
    · exact kk _ (by simp [kinds])
    · obtain rfl := List.mem_singleton.mp hx
      exact s4 h.1 h.2
theorem cond_len (c : Cond) : 2 ≤ (condV c).length ∧ (condV c).length ≤ 3 := by cases c <;> simp [condV]
section
variable {P : Program} {w : World} {K : PySem.W.Frag} {mg : Str → Option Value} {base : Heap} {A : Ad}
def sp_lbent (K : PySem.W.Frag) : Sp := fun vs H Q _ => ∃ (r : Int) (z : Str) (a : Addr) (c : Cond), vs = [.int r, .str z, .ref a] ∧ 0 ≤ r ∧ z ∈ L8 ∧ SqT K H a (condV c) ∧ CondOk (zs z) c ∧
  ∀ v d H', Same H H' → Dp K H' v d → smallC d → (∀ d0 ts, d = .tuple (d0 :: ts) → SeqAt.shaped d0 = true) → Q v H'
end
end K3
set_option Elab.async false
set_option linter.all false
set_option maxRecDepth 100000
set_option maxHeartbeats 4000000
namespace K3
open PySem PySem.Spec PyProof.Rows L2 FX
theorem asc_eq : ∀ {xs ys : List Int}, xs.Pairwise (· < ·) → ys.Pairwise (· < ·) → (∀ k, k ∈ xs ↔ k ∈ ys) → xs = ys
  | [], [], _, _, _ => rfl
  | [], y :: ys, _, _, h => absurd ((h y).mpr List.mem_cons_self) List.not_mem_nil
  | x :: xs, [], _, _, h => absurd ((h x).mp List.mem_cons_self) List.not_mem_nil
  | x :: xs, y :: ys, p1, p2, h => by
    obtain ⟨a1, a2⟩ := List.pairwise_cons.mp p1
    obtain ⟨b1, b2⟩ := List.pairwise_cons.mp p2
    have e : x = y := by
      rcases List.mem_cons.mp ((h x).mp List.mem_cons_self) with e | e
      · exact e
      · rcases List.mem_cons.mp ((h y).mpr List.mem_cons_self) with e' | e'
        · exact e'.symm
        · have h1 := b1 x e
          have h2 := a1 y e'
          omega
    subst e
    rw [asc_eq a2 b2 fun k => ?_]
    constructor
    · intro hk
      rcases List.mem_cons.mp ((h k).mp (List.mem_cons_of_mem _ hk)) with e | e
      · have := a1 k hk; omega
      · exact e
    · intro hk
      rcases List.mem_cons.mp ((h k).mpr (List.mem_cons_of_mem _ hk)) with e | e
      · have := b1 k hk; omega
      · exact e
theorem skips_asc (s ps : List Nat) : ((skips s ps).map fun k : Nat => (k : Int)).Pairwise (· < ·) := by
  rw [List.pairwise_map]
  have h : (skips s ps).Pairwise (· < ·) := List.Pairwise.filter _ List.pairwise_lt_range
  exact h.imp fun h => Int.ofNat_lt.mpr h
section
variable {P : Program} {w : World} {K : PySem.W.Frag} {mg : Str → Option Value} {base : Heap} {A : Ad}
def sp_lled (K : PySem.W.Frag) : Sp := fun vs H Q _ => ∃ (s : List Nat) (a : Addr) (ps : List Nat), vs = [.str (S s), .ref a] ∧ s.length ≤ 10 ∧ ps.length ≤ 20 ∧ (∀ k ∈ ps, k ≤ s.length) ∧ SqL K H a (ps.map vN) ∧ ∀ t H', Same H H' → SqT K H' t ((skips s ps).map vN) → Q (.ref t) H'
theorem ok_law_led (T : Txt K mg A) : FnOk P w K mg base CX0 1 A.a_law_led A.d_law_led ["text", "places"] (sp_lled K) := by
  refine T.f_law_led.F.ok sc_law_led (fun vs H Q E h => ?_) (fun cdv Ar outer s H vs Q E hr h => ?_)
  · obtain ⟨s, a, ps, rfl, _⟩ := h
    rfl
  · obtain ⟨s, a, ps, rfl, hs, hp, hle, ha, q⟩ := h
    refine ⟨_, (pss_cons (ps_set (i := 2) sc_law_led.nd rfl (Or.inl rfl) (pe_callTy call_list_of (by rfl) T.n_list (by decide +kernel) (pa_cons (pv 1) pa_nil))) (pss_cons (ps_for PassesOwn.never rfl (pi_range1 (by rfl) T.n_range (pa_cons (pe_callB call_len_str (by rfl) T.n_len (by decide +kernel) (pa_cons (pv 0) pa_nil)) pa_nil)) (pg_name (i := 3) sc_law_led.nd rfl (Or.inl rfl)) (pss_one (ps_if (PW.pt (pw_and (pt_cmpR op_in_seq (pv 3) (pv 2) (by rfl)) (pw_and (pt_cmpR op_eq (pe_ix ix_str (pv 0) (pv 3) (fun _ _ => rfl)) pe_str (nomark _)) (pw_and1 (pt_cmpR op_notIn_seq (pe_op op_add (pv 3) pe_int) (pv 2) (by rfl)))))) (pss_one (ps_expr (pe_bm PySem.F.plainAttrs_list PySem.F.slot_list_append PySem.F.type_list_append mt_append (pv 2) (pa_cons (pe_op op_add (pv 3) pe_int) pa_nil)))) pss_nil))) (pss_one (ps_ret (pe_callTy call_tuple_of (by rfl) T.n_tuple (by decide +kernel) (pa_cons (pe_callB (cr_sortedSet rfl) (by rfl) T.n_sorted (by decide +kernel) (pa_cons (pe_callTy (cr_setL rfl) (by rfl) T.n_set (by decide +kernel) (pa_cons (pv 2) pa_nil)) pa_nil)) pa_nil)))))), ?_⟩
    refine ⟨_, rfl, a, _, rfl, .inl ha, fun l hl => ?_⟩
    have hz : (S s).length = s.length := S_len s
    have en : ((S s).length : Int).toNat = s.length := by rw [hz]; omega
    refine ⟨_, rfl, S s, rfl, by rw [hz]; exact Nat.le_trans hs (by decide), _, rfl, by omega, by omega, ?_⟩
    refine for_range (lo := 0) (n := ((S s).length : Int).toNat) (fun i σ H' => Same H H' ∧ ∃ (o : Option V) (ws : List Nat), σ = [some (.str (S s)), some (.ref a), some (.ref l), o] ∧ H' l = some (.lst (ws.map vN)) ∧ ws.length ≤ ps.length + i ∧ ∀ k, k ∈ ws ↔ k ∈ ps ∨ (k ≤ i ∧ isIn s ps k = true))
      ⟨same_upd hl, none, ps, rfl, upd_same, Nat.le_refl _, fun k => ⟨.inl, fun h => ?_⟩⟩ ?_ ?_
    · rcases h with h | ⟨h1, h2⟩
      · exact h
      · obtain rfl : k = 0 := by omega
        exact of_decide_eq_true h2
    · rintro i σ H2 hi ⟨sm, o, ws, rfl, hL, hn, hm⟩
      rw [en] at hi
      have ej : s[i]? = some s[i] := List.getElem?_eq_getElem hi
      have ea : atI (S s).cps.toList ((0 : Int) + (i : Int)) = some s[i] := by
        rw [Int.zero_add]
        exact atI_nat (by rw [show (S s).cps.toList = s from zs_S s]; exact ej)
      have m1 : decide (i ∈ ws) = isIn s ps i := by
        rw [Bool.eq_iff_iff, decide_eq_true_eq, hm]
        exact ⟨fun h => h.elim isIn_of fun h => h.2, fun h => .inr ⟨Nat.le_refl _, h⟩⟩
      have m2 : decide (i + 1 ∈ ws) = decide (i + 1 ∈ ps) := by
        rw [decide_eq_decide, hm]
        exact ⟨fun h => h.elim id fun h => absurd h.1 (by omega), .inl⟩
      have ei : isIn s ps (i + 1) = (decide (i + 1 ∈ ps) || (isIn s ps i && decide (s[i]? = some 42))) := rfl
      have stay : (isIn s ps (i + 1) = true → i + 1 ∈ ps) → ∀ k, k ∈ ws ↔ k ∈ ps ∨ (k ≤ i + 1 ∧ isIn s ps k = true) := fun h k => by
        rw [hm]
        constructor
        · rintro (h1 | ⟨h1, h2⟩)
          · exact .inl h1
          · exact .inr ⟨by omega, h2⟩
        · rintro (h1 | ⟨h1, h2⟩)
          · exact .inl h1
          · by_cases e : k = i + 1
            · subst e; exact .inl (h h2)
            · exact .inr ⟨by omega, h2⟩
      have same : (isIn s ps (i + 1) = true → i + 1 ∈ ps) → Same H H2 ∧ ∃ (o : Option V) (ws : List Nat), [some (.str (S s)), some (.ref a), some (.ref l), some (V.int ((0 : Int) + (i : Int)))] = [some (.str (S s)), some (.ref a), some (.ref l), o] ∧ H2 l = some (.lst (ws.map vN)) ∧ ws.length ≤ ps.length + (i + 1) ∧ ∀ k, k ∈ ws ↔ k ∈ ps ∨ (k ≤ i + 1 ∧ isIn s ps k = true) :=
        fun h => ⟨sm, _, ws, rfl, hL, by omega, stay h⟩
      refine ⟨_, rfl, _, rfl, l, _, rfl, .inl (SqL.of hL), rfl, flat_nats ws, _, rfl, ?_⟩
      rw [show inV (.int ((0 : Int) + (i : Int))) (ws.map vN) = isIn s ps i by rw [Int.zero_add, inV_mem, m1]]
      cases e1 : isIn s ps i with
      | false => exact iteF (same fun h => by rw [ei, e1, Bool.false_and, Bool.or_false] at h; exact of_decide_eq_true h)
      | true =>
        refine iteT ⟨_, rfl, _, rfl, S s, _, s[i], rfl, rfl, by rw [hz]; exact Nat.le_trans hs (by decide), ea, rfl, _, rfl, ?_⟩
        rw [show (Str.ofString "*") = S [42] from rfl, show (⟨#[s[i]]⟩ : Str) = S [s[i]] from rfl, sign_eq]
        by_cases e2 : s[i] = 42
        · rw [decide_eq_true e2]
          refine iteT ⟨_, rfl, _, _, rfl, rfl, _, rfl, l, _, rfl, .inl (SqL.of hL), rfl, flat_nats ws, _, rfl, ?_⟩
          rw [show inV (.int ((0 : Int) + (i : Int) + 1)) (ws.map vN) = decide (i + 1 ∈ ps) by rw [show (0 : Int) + (i : Int) + 1 = ((i + 1 : Nat) : Int) by omega, inV_mem, m2]]
          cases e3 : decide (i + 1 ∈ ps) with
          | true => exact iteF (same fun _ => of_decide_eq_true e3)
          | false =>
            refine iteT ⟨_, rfl, .inl ⟨rfl, _, SqL.of hL⟩, _, rfl, _, _, rfl, rfl, l, _, _, rfl, rfl, hL, by rw [List.length_map]; exact Nat.lt_of_le_of_lt (show ws.length ≤ 100 by omega) (by decide), Same.set sm hl, _, ws ++ [i + 1], rfl, ?_, ?_, fun k => ?_⟩
            · rw [upd_same]
              show some (HO.lst (ws.map vN ++ [V.int ((0 : Int) + (i : Int) + 1)])) = _
              rw [int01, List.map_append]
              rfl
            · rw [List.length_append]
              show _ + 1 ≤ _
              omega
            · have hin : isIn s ps (i + 1) = true := isIn_star e1 (by rw [ej, e2])
              rw [List.mem_append, List.mem_singleton, hm]
              constructor
              · rintro ((h1 | ⟨h1, h2⟩) | rfl)
                · exact .inl h1
                · exact .inr ⟨by omega, h2⟩
                · exact .inr ⟨Nat.le_refl _, hin⟩
              · rintro (h1 | ⟨h1, h2⟩)
                · exact .inl (.inl h1)
                · by_cases e : k = i + 1
                  · exact .inr e
                  · exact .inl (.inr ⟨by omega, h2⟩)
        · rw [decide_eq_false e2]
          exact iteF (same fun h => by rw [ei, e1, ej, Bool.true_and, decide_eq_false (fun h => e2 (Option.some.inj h)), Bool.or_false] at h; exact of_decide_eq_true h)
    · rintro σ H2 ⟨sm, o, ws, rfl, hL, hn, hm⟩
      rw [en] at hn hm
      have hm2 : ∀ k, k ∈ ws ↔ k ∈ skips s ps := fun k => by
        rw [hm, mem_skips]
        exact ⟨fun h => h.elim (fun h => ⟨hle k h, isIn_of h⟩) id, .inr⟩
      have ew : ws.map vN = (ws.map fun k : Nat => (k : Int)).map V.int := by rw [List.map_map]; rfl
      refine ⟨_, rfl, l, ws.map fun k : Nat => (k : Int), rfl, SqL.of (by rw [← ew]; exact hL), by rw [List.length_map]; omega, fun p c hp hc => ?_⟩
      rw [List.length_map] at hc
      refine ⟨p, _, c, rfl, upd_same, by omega, fun ns u h1 h2 h3 hu => ?_⟩
      have en2 : ns = (skips s ps).map fun k : Nat => (k : Int) := asc_eq h1 (skips_asc s ps) fun k => by
        rw [h2, decide_eq_true_eq, List.mem_map, List.mem_map]
        exact ⟨fun ⟨j, h, e⟩ => ⟨j, (hm2 j).mp h, e⟩, fun ⟨j, h, e⟩ => ⟨j, (hm2 j).mpr h, e⟩⟩
      refine ⟨u, _, rfl, .inl ⟨SqL.of upd_same, fun t ht => q t _ (Same.up (Same.up (Same.up sm hp) hu) ht) (SqT.of ?_)⟩⟩
      rw [upd_same, en2, List.map_map]
      rfl
end
end K3
set_option Elab.async false
set_option linter.all false
set_option maxRecDepth 100000
set_option maxHeartbeats 4000000
namespace K3
open PySem PySem.Spec PyProof.Rows L2 FX
section
variable {P : Program} {w : World} {K : PySem.W.Frag} {mg : Str → Option Value} {base : Heap} {A : Ad}
theorem ok_law_first_stand (T : Txt K mg A) : FnOk P w K mg base CX0 2 A.a_law_first_stand A.d_law_first_stand ["condition"] (sp_first_stand K) := by
  refine T.f_law_first_stand.F.ok sc_law_first_stand (fun vs H Q E h => ?_) (fun cdv Ar outer s H vs Q E hr h => ?_)
  · obtain ⟨a, z, c, rfl, _⟩ := h
    rfl
  · obtain ⟨a, z, c, rfl, ha, hc, q⟩ := h
    refine ⟨_, (pss_cons (ps_if (pt_cmpR op_eq (pe_ix ix_tup (pv 0) pe_int (fun _ _ => rfl)) pe_str (nomark _)) (pss_one (ps_ret (pe_call (ok_law_led T) (hr.mono (by decide)) (by rfl) T.f_law_led.g T.f_law_led.F.kp T.f_law_led.b .nil pass0 (pa_cons (pe_ix ix_tup (pv 0) pe_int (fun _ _ => rfl)) (pa_cons (pe_lst (pa_cons pe_int pa_nil)) pa_nil))))) pss_nil) (pss_one (ps_ret (pe_ifExp (pt_cmpR op_eq (pe_ix ix_tup (pv 0) pe_int (fun _ _ => rfl)) pe_str (nomark _)) (pe_tup (pa_cons pe_int (pa_cons pe_int pa_nil))) pe_int)))), ?_⟩
    cases c with
    | eq b t =>
      refine ⟨_, rfl, a, condV (.eq b t), 0, _, rfl, rfl, ha, rfl, rfl, _, rfl, ?_⟩
      refine iteD0 (by cases b <;> decide +kernel) ⟨_, rfl, a, condV (.eq b t), 0, _, rfl, rfl, ha, rfl, rfl, _, rfl, ?_⟩
      exact iteD0 (by cases b <;> decide +kernel) (q _ _ (Same.refl _) rfl)
    | btw b e =>
      refine ⟨_, rfl, a, condV (.btw b e), 0, _, rfl, rfl, ha, rfl, rfl, _, rfl, ?_⟩
      refine iteD0 (by decide +kernel) ⟨_, rfl, a, condV (.btw b e), 0, _, rfl, rfl, ha, rfl, rfl, _, rfl, ?_⟩
      exact iteD1 (by decide +kernel) ⟨by show 2 ≤ sizeLine; decide, fun r hr => q _ _ (same_upd hr) ⟨r, rfl, SqT.of upd_same⟩⟩
    | like t =>
      refine ⟨_, rfl, a, condV (.like t), 0, _, rfl, rfl, ha, rfl, rfl, _, rfl, ?_⟩
      refine iteD1 (by decide +kernel) ⟨_, rfl, a, condV (.like t), 1, _, rfl, rfl, ha, rfl, by show 1 ≤ sizeLine; decide, fun L hL => ?_⟩
      exact ⟨t, L, [0], rfl, Nat.le_trans hc.1 (by decide), by decide, fun k hk => by simp at hk; omega, SqL.of upd_same, fun u H' s' h' => q _ _ ((same_upd hL).trans s') ⟨u, rfl, h'⟩⟩
def starsOf (t ps : List Nat) : List Nat := ps.filter fun p => decide (t[p]? = some 42)
def stepsOf (t : List Nat) (c : Nat) (ps : List Nat) : List Nat := (ps.filter fun p => decide (t[p]? = some 63 ∨ t[p]? = some c)).map (· + 1)
theorem filter_take {f : Nat → Bool} {ps : List Nat} {i p : Nat} (h : ps[i]? = some p) : (ps.take (i + 1)).filter f = (ps.take i).filter f ++ (if f p = true then [p] else []) := by
  rw [take_succ' h, List.filter_append]
  congr 1
  by_cases e : f p = true <;> simp [e]
theorem isIn_congr {s ps qs : List Nat} (h : ∀ k, k ∈ ps ↔ k ∈ qs) : ∀ k, isIn s ps k = isIn s qs k
  | 0 => decide_eq_decide.mpr (h 0)
  | k + 1 => by
    show (decide (k + 1 ∈ ps) || _) = (decide (k + 1 ∈ qs) || _)
    rw [isIn_congr h k, decide_eq_decide.mpr (h (k + 1))]
theorem skips_congr {s ps qs : List Nat} (h : ∀ k, k ∈ ps ↔ k ∈ qs) : skips s ps = skips s qs := by
  unfold skips
  rw [show isIn s ps = isIn s qs from funext (isIn_congr h)]
theorem mem_two {t ps : List Nat} {c k : Nat} : k ∈ starsOf t ps ++ stepsOf t c ps ↔ k ∈ raw t ps c := by
  unfold starsOf stepsOf
  rw [List.mem_append, mem_raw, List.mem_filter, List.mem_map]
  constructor
  · rintro (⟨h1, h2⟩ | ⟨p, h1, rfl⟩)
    · exact ⟨k, h1, .inl ⟨of_decide_eq_true h2, rfl⟩⟩
    · obtain ⟨h1, h2⟩ := List.mem_filter.mp h1
      exact ⟨p, h1, .inr ⟨of_decide_eq_true h2, rfl⟩⟩
  · rintro ⟨p, hp, ⟨h1, rfl⟩ | ⟨h1, rfl⟩⟩
    · exact .inl ⟨hp, decide_eq_true h1⟩
    · exact .inr ⟨p, List.mem_filter.mpr ⟨hp, decide_eq_true h1⟩, rfl⟩
/-- what a stand needs so that its list stays small -/
def StFew : Stand → Prop
  | .l ps => ps.length ≤ 8
  | _ => True
def sp_lnext_stand (K : PySem.W.Frag) : Sp := fun vs H Q _ => ∃ (z : Str) (a : Addr) (c : Cond) (v : V) (s : Stand) (d : Nat), vs = [.str z, .ref a, v, .str (S [d])] ∧ z ∈ L8 ∧ SqT K H a (condV c) ∧ CondOk (zs z) c ∧ StandAt K H v s ∧ StOk c s ∧ StFew s ∧ d ∈ zs z ∧
  ∀ v' H', Same H H' → StandAt K H' v' (nextS (ix (zs z)) c s d) → Q v' H'
theorem ok_law_next_stand (T : Txt K mg A) : FnOk P w K mg base CX0 2 A.a_law_next_stand A.d_law_next_stand ["letters", "condition", "mark", "letter"] (sp_lnext_stand K) := by
  refine T.f_law_next_stand.F.ok sc_law_next_stand (fun vs H Q E h => ?_) (fun cdv Ar outer s H vs Q E hr h => ?_)
  · obtain ⟨z, a, c, v, s, d, rfl, _⟩ := h
    rfl
  · obtain ⟨z, a, c, v, s, d, rfl, hz, ha, hc, hv, hs, hf, hd, q⟩ := h
    refine ⟨_, (pss_cons (ps_set (i := 4) sc_law_next_stand.nd rfl (Or.inr rfl) (pe_ix ix_tup (pv 1) pe_int (fun _ _ => rfl))) (pss_cons (ps_if (pt_cmpR op_eq (pe_ix ix_tup (pv 1) pe_int (fun _ _ => rfl)) pe_str (nomark _)) (pss_one (ps_ret (pe_tup (pa_cons (pe_call (ok_law_beside T) (hr.mono (by decide)) (by rfl) T.f_law_beside.g T.f_law_beside.F.kp T.f_law_beside.b .nil pass0 (pa_cons (pv 0) (pa_cons (pv 4) (pa_cons (pe_ix ix_tup (pv 2) pe_int (fun _ _ => rfl)) (pa_cons (pv 3) pa_nil))))) (pa_cons (pe_call (ok_law_beside T) (hr.mono (by decide)) (by rfl) T.f_law_beside.g T.f_law_beside.F.kp T.f_law_beside.b .nil pass0 (pa_cons (pv 0) (pa_cons (pe_ix ix_tup (pv 1) pe_int (fun _ _ => rfl)) (pa_cons (pe_ix ix_tup (pv 2) pe_int (fun _ _ => rfl)) (pa_cons (pv 3) pa_nil))))) pa_nil))))) pss_nil) (pss_cons (ps_if (pt_cmpR op_eq (pe_ix ix_tup (pv 1) pe_int (fun _ _ => rfl)) pe_str (nomark _)) (pss_cons (ps_setLc (i := 5) (own := [("place", 6)]) (g := (gName 6)) (by rfl) sc_law_next_stand.nd rfl rfl (sw_true rfl rfl rfl (by decide +kernel)) (pi_tup (pv 2)) (blkOk_by (own := [("place", 6)]) (N := ["letters", "condition", "mark", "letter", "text", "found", "place"]) (sc := defScope s_law_next_stand) (by decide +kernel)) (fun _ _ _ _ _ => (pg_name (i := 6) sc_law_next_stand.nd rfl (Or.inl rfl))) (fun _ _ _ _ _ => (pts_one (pt_cmpR op_eq (pe_slice sl_str (pv 4) (po_some (pv 6)) (po_some (pe_op op_add (pv 6) pe_int))) pe_str (nomark _)))) (fun _ _ _ _ _ => by exact (pv 6))) (pss_cons (ps_set (i := 5) sc_law_next_stand.nd rfl (Or.inl rfl) (pe_op op_cat (pv 5) (pe_lc (own := [("place", 6)]) (g := (gName 6)) (by rfl) sc_law_next_stand.nd (pi_tup (pv 2)) (blkOk_by (own := [("place", 6)]) (N := ["letters", "condition", "mark", "letter", "text", "found", "place"]) (sc := defScope s_law_next_stand) (by decide +kernel)) (fun _ _ _ _ _ => (pg_name (i := 6) sc_law_next_stand.nd rfl (Or.inl rfl))) (fun _ _ _ _ _ => (pts_one (pt_cmpR (show OpR _ _ (rIn K false) from op_in_seq) (pe_slice sl_str (pv 4) (po_some (pv 6)) (po_some (pe_op op_add (pv 6) pe_int))) (pe_tup (pa_cons pe_str (pa_cons (pv 3) pa_nil))) (by rfl)))) (fun _ _ _ _ _ => by exact (pe_op op_add (pv 6) pe_int))))) (pss_one (ps_ret (pe_call (ok_law_led T) (hr.mono (by decide)) (by rfl) T.f_law_led.g T.f_law_led.F.kp T.f_law_led.b .nil pass0 (pa_cons (pv 4) (pa_cons (pv 5) pa_nil))))))) pss_nil) (pss_cons (ps_if (PW.pt (pw_and (pt_cmpR op_eq (pe_ix ix_tup (pv 1) pe_int (fun _ _ => rfl)) pe_str (nomark _)) (pw_and1 (pt_cmpR op_eq (pv 2) (pe_callB call_len_str (by rfl) T.n_len (by decide +kernel) (pa_cons (pv 4) pa_nil)) (nomark _))))) (pss_one (ps_ret (pv 2))) pss_nil) (pss_one (ps_ret (pe_ifExp (PW.pt (pw_and (pt_cmpR op_ge (pv 2) pe_int (nomark _)) (pw_and1 (pt_cmpR op_eq (pe_slice sl_str (pv 4) (po_some (pv 2)) (po_some (pe_op op_add (pv 2) pe_int))) (pv 3) (nomark _))))) (pe_op op_add (pv 2) pe_int) (pe_un un_neg pe_int)))))))), ?_⟩
    cases c with
    | eq b t =>
      cases s with
      | b x y => exact hs.elim
      | l ps => exact hs.elim
      | m n =>
        obtain rfl := hv
        refine ⟨_, rfl, a, condV (.eq b t), 1, _, rfl, rfl, ha, rfl, ?_⟩
        refine ⟨_, rfl, a, condV (.eq b t), 0, _, rfl, rfl, ha, rfl, rfl, _, rfl, ?_⟩
        refine iteD0 (by cases b <;> decide +kernel) ⟨_, rfl, a, condV (.eq b t), 0, _, rfl, rfl, ha, rfl, rfl, _, rfl, ?_⟩
        refine iteD0 (by cases b <;> decide +kernel) (seq_cut (fun σ1 H1 => σ1 = [some (.str z), some (.ref a), some (.int n), some (.str (S [d])), some (.str (S t)), none, none] ∧ H1 = H) ?_ fun nx' kk => kk _ _ ⟨rfl, rfl⟩)
        rintro _ H ⟨rfl, rfl⟩
        refine (seq_cut (fun σ1 H1 => σ1 = [some (.str z), some (.ref a), some (.int n), some (.str (S [d])), some (.str (S t)), none, none] ∧ H1 = H ∧ ¬ (b = true ∧ n = t.length)) ?_ ?_)
        · rintro _ H1 ⟨rfl, rfl, hne⟩
          have hn := hs.1
          have no : ¬ (0 ≤ n ∧ t[n.toNat]? = some d) → Q (.int (-1)) H1 := fun h => q _ _ (Same.refl _) (by
            show V.int (-1) = .int (mNext b t n d)
            unfold mNext
            rw [if_neg hne, if_neg h])
          refine ⟨_, rfl, _, _, rfl, rfl, _, rfl, ?_⟩
          by_cases h0 : 0 ≤ n
          · rw [decide_eq_true h0]
            obtain ⟨k, rfl⟩ : ∃ k : Nat, n = (k : Int) := ⟨n.toNat, by omega⟩
            refine iteT ⟨_, rfl, _, rfl, _, rfl, _, rfl, _, _, rfl, rfl, _, rfl, S t, rfl, S_line (Nat.le_trans hc.1 (by decide)), ?_⟩
            rw [cut1]
            refine ⟨_, rfl, rfl, _, rfl, ?_⟩
            rw [sign_star]
            by_cases e : t[k]? = some d
            · rw [decide_eq_true e]
              refine iteT ⟨_, rfl, _, _, rfl, rfl, q _ _ (Same.refl _) ?_⟩
              show V.int ((k : Int) + 1) = .int (mNext b t k d)
              unfold mNext
              rw [if_neg hne, if_pos ⟨h0, by rw [Int.toNat_natCast]; exact e⟩]
            · rw [decide_eq_false e]
              exact iteF ⟨_, rfl, no fun h => e (by have := h.2; rwa [Int.toNat_natCast] at this)⟩
          · rw [decide_eq_false h0]
            exact iteF ⟨_, rfl, no fun h => h0 h.1⟩
        · intro nx' kk
          refine ⟨_, rfl, a, condV (.eq b t), 0, _, rfl, rfl, ha, rfl, rfl, _, rfl, ?_⟩
          cases b with
          | false => exact iteD0 (by decide +kernel) (kk _ _ ⟨rfl, rfl, fun h => Bool.false_ne_true h.1⟩)
          | true =>
            refine iteD1 (by decide +kernel) ⟨_, rfl, _, rfl, S t, rfl, S_line (Nat.le_trans hc.1 (by decide)), rfl, _, rfl, ?_⟩
            rw [S_len, dec_int]
            by_cases e : n = t.length
            · rw [decide_eq_true e]
              refine iteT ⟨_, rfl, q _ _ (Same.refl _) ?_⟩
              show V.int n = .int (mNext true t n d)
              unfold mNext
              rw [if_pos ⟨rfl, e⟩]
            · rw [decide_eq_false e]
              exact iteF (kk _ _ ⟨rfl, rfl, fun h => e h.2⟩)
    | btw b e =>
      cases s with
      | m n => exact hs.elim
      | l ps => exact hs.elim
      | b x y =>
        obtain ⟨p, rfl, hp⟩ := hv
        refine ⟨_, rfl, a, condV (.btw b e), 1, _, rfl, rfl, ha, rfl, ?_⟩
        refine ⟨_, rfl, a, condV (.btw b e), 0, _, rfl, rfl, ha, rfl, rfl, _, rfl, ?_⟩
        refine iteD1 (by decide +kernel) ⟨_, rfl, _, rfl, _, rfl, p, _, 0, _, rfl, rfl, hp, rfl, _, rfl, ?_⟩
        refine ⟨z, b, x, d, rfl, hz, hd, hc.1.2, Nat.le_trans hc.1.1 (by decide), hs.1.1, hs.1.2, ?_⟩
        refine ⟨_, rfl, _, rfl, a, condV (.btw b e), 2, _, rfl, rfl, ha, rfl, _, rfl, p, _, 1, _, rfl, rfl, hp, rfl, _, rfl, ?_⟩
        refine ⟨z, e, y, d, rfl, hz, hd, hc.2.2, Nat.le_trans hc.2.1 (by decide), hs.2.1, hs.2.2, ?_⟩
        exact ⟨by show 2 ≤ sizeLine; decide, fun r hr => q _ _ (same_upd hr) ⟨r, rfl, SqT.of upd_same⟩⟩
    | like t =>
      cases s with
      | m n => exact hs.elim
      | b x y => exact hs.elim
      | l ps =>
        obtain ⟨p, rfl, hp⟩ := hv
        have tl := hc.1
        refine ⟨_, rfl, a, condV (.like t), 1, _, rfl, rfl, ha, rfl, ?_⟩
        refine ⟨_, rfl, a, condV (.like t), 0, _, rfl, rfl, ha, rfl, rfl, _, rfl, ?_⟩
        refine iteD0 (by decide +kernel) ⟨_, rfl, a, condV (.like t), 0, _, rfl, rfl, ha, rfl, rfl, _, rfl, ?_⟩
        refine iteD1 (by decide +kernel) ?_
        have few : ps.length ≤ 8 := hf
        have item : ∀ {i : Nat} {y : V}, (ps.map vN)[i]? = some y → ∃ k, ps[i]? = some k ∧ y = vN k := fun hy => by
          rw [List.getElem?_map] at hy
          rename_i i y
          cases e : ps[i]? with
          | none => rw [e] at hy; cases hy
          | some k => rw [e] at hy; exact ⟨k, rfl, (Option.some.inj hy).symm⟩
        have hzt : (S t).length ≤ sizeLine := S_line (Nat.le_trans tl (by decide))
        refine ⟨_, rfl, p, rfl, ⟨_, hp⟩, fun D hD => ?_⟩
        refine lc_sel (walk_tup (xs := ps.map vN)) (fun i => (starsOf t (ps.take i)).map vN) rfl (fun i _ => ?_) hD (fun H' s' => SqT.same s' hp) ?_ ?_
        · rw [List.length_map]
          refine Nat.lt_of_le_of_lt (show _ ≤ 8 from ?_) (by decide)
          exact Nat.le_trans (List.length_filter_le _ _) (by rw [List.length_take]; omega)
        · rintro i y H1 H2 hi sm hx ⟨rfl, hy⟩ go no
          obtain ⟨k, hk, rfl⟩ := item hy
          refine ⟨rfl, ?_⟩
          refine ⟨_, rfl, _, rfl, _, rfl, _, rfl, _, _, rfl, rfl, _, rfl, S t, rfl, hzt, ?_⟩
          rw [cut1]
          refine ⟨rfl, _, rfl, ?_⟩
          rw [show (Str.ofString "*") = S [42] from rfl, sign_star]
          by_cases e : t[k]? = some 42
          · rw [decide_eq_true e]
            refine iteT ⟨_, rfl, go _ _ (Same.refl _) ?_⟩
            show (starsOf t (ps.take (i + 1))).map vN = _
            unfold starsOf
            rw [filter_take hk, if_pos (decide_eq_true e), List.map_append]
            rfl
          · rw [decide_eq_false e]
            refine iteF (no _ (Same.refl _) ?_)
            show (starsOf t (ps.take (i + 1))).map vN = _
            unfold starsOf
            rw [filter_take hk, if_neg (by simpa using e), List.append_nil]
        · intro H3 sm3 hx3
          rw [List.length_map, List.take_length] at hx3
          refine ⟨_, rfl, _, rfl, p, rfl, ⟨_, SqT.same sm3 hp⟩, fun D2 hD2 => ?_⟩
          have sm32 : Same H H3 := sm3
          refine lc_sel (walk_tup (xs := ps.map vN)) (fun i => (stepsOf t d (ps.take i)).map vN) rfl (fun i _ => ?_) hD2 (fun H' s' => SqT.same (sm3.trans s') hp) ?_ ?_
          · rw [List.length_map]
            unfold stepsOf
            rw [List.length_map]
            refine Nat.lt_of_le_of_lt (show _ ≤ 8 from ?_) (by decide)
            exact Nat.le_trans (List.length_filter_le _ _) (by rw [List.length_take]; omega)
          · rintro i y H1 H2 hi sm hx ⟨rfl, hy⟩ go no
            obtain ⟨k, hk, rfl⟩ := item hy
            refine ⟨rfl, ?_⟩
            refine ⟨_, rfl, _, rfl, _, rfl, _, rfl, _, _, rfl, rfl, _, rfl, S t, rfl, hzt, ?_⟩
            rw [cut1]
            refine ⟨_, rfl, by show 2 ≤ sizeLine; decide, fun u hu => ⟨u, _, rfl, .inr (SqT.of upd_same), rfl, rfl, _, rfl, ?_⟩⟩
            rw [if_neg Bool.false_ne_true, sign_in]
            by_cases e : t[k]? = some 63 ∨ t[k]? = some d
            · rw [decide_eq_true e]
              refine iteT ⟨_, rfl, _, _, rfl, rfl, go _ _ (same_upd hu) ?_⟩
              show (stepsOf t d (ps.take (i + 1))).map vN = _
              unfold stepsOf
              rw [filter_take hk, if_pos (decide_eq_true e), List.map_append, List.map_append]
              rfl
            · rw [decide_eq_false e]
              refine iteF (no _ (same_upd hu) ?_)
              show (stepsOf t d (ps.take (i + 1))).map vN = _
              unfold stepsOf
              rw [filter_take hk, if_neg (by simpa using e), List.append_nil]
          · intro H4 sm4 hx4
            rw [List.length_map, List.take_length] at hx4
            have l1 : (starsOf t ps).length ≤ 8 := Nat.le_trans (List.length_filter_le _ _) few
            have l2 : (stepsOf t d ps).length ≤ 8 := by unfold stepsOf; rw [List.length_map]; exact Nat.le_trans (List.length_filter_le _ _) few
            refine ⟨D, D2, _, _, rfl, rfl, sm4 _ _ hx3, hx4, by rw [List.length_map, List.length_map]; exact Nat.le_trans (show _ ≤ 16 by omega) (by decide), fun L hL => ?_⟩
            have smL : Same H (upd H4 L (.lst ((starsOf t ps).map vN ++ (stepsOf t d ps).map vN))) := Same.up (sm3.trans sm4) hL
            refine ⟨_, rfl, _, rfl, t, L, starsOf t ps ++ stepsOf t d ps, rfl, Nat.le_trans tl (by decide), by rw [List.length_append]; omega, fun k hk => raw_le (mem_two.mp hk), SqL.of ?_, fun u H5 s5 h5 => q _ _ (smL.trans s5) ⟨u, rfl, ?_⟩⟩
            · rw [upd_same, List.map_append]
            · show SqT K H5 u ((skips t (raw t ps d)).map vN)
              rw [skips_congr fun k => (mem_two (t := t) (ps := ps) (c := d) (k := k)).symm]
              exact h5
end
end K3
set_option Elab.async false
set_option linter.all false
set_option maxRecDepth 100000
set_option maxHeartbeats 4000000
namespace K3
open PySem PySem.Spec PyProof.Rows L2 FX
section
variable {P : Program} {w : World} {K : PySem.W.Frag} {mg : Str → Option Value} {base : Heap} {A : Ad}
theorem good_str {K : PySem.W.Frag} {H : Hp} {x : Str} (h1 : x.length ≤ 100000) (h2 : ∀ c ∈ zs x, c < 0x110000) : Good K H (.str x) := ⟨_, .str _, h1, shaped_str h2⟩
theorem odd_at (odd : List V) (hl : odd.length = 12) (r : Int) : ∃ x, atI odd (r % 12) = some x ∧ x ∈ odd := by
  have m0 : 0 ≤ r % 12 := Int.emod_nonneg _ (by decide)
  have m1 : r % 12 < 12 := Int.emod_lt_of_pos _ (by decide)
  obtain ⟨j, hj⟩ : ∃ j : Nat, r % 12 = (j : Int) := ⟨(r % 12).toNat, by omega⟩
  have hjl : j < odd.length := by omega
  exact ⟨odd[j], by rw [hj]; exact atI_nat (List.getElem?_eq_getElem hjl), List.getElem_mem hjl⟩
theorem pos12 : (0 : Int) < 12 := by decide
theorem good_one {K : PySem.W.Frag} {H : Hp} {v : V} {d : PyData} (h : Dp K H v d) (h1 : small d) (h2 : SeqAt.shaped d = true) : Good K H v := ⟨d, h, h1, h2⟩
theorem ok_law_bent (T : Txt K mg A) : FnOk P w K mg base CX0 1 A.a_law_bent A.d_law_bent ["seed", "letters", "condition"] (sp_lbent K) := by
  refine T.f_law_bent.F.ok sc_law_bent (fun vs H Q E h => ?_) (fun cdv Ar outer s H vs Q E hr h => ?_)
  · obtain ⟨r, z, a, c, rfl, _⟩ := h
    rfl
  · obtain ⟨r, z, a, c, rfl, r0, hz, ha, hc, q⟩ := h
    refine ⟨_, (pss_cons (ps_par (i := 3) (j := 4) (by rfl) sc_law_bent.nd rfl rfl (by decide) rfl rfl (pa_cons (pe_op op_mod (pe_callTy call_int1 (by rfl) T.n_int (by decide +kernel) (pa_cons (pe_op op_fdiv (pv 0) pe_int) pa_nil)) (pe_callB call_len_seq (by rfl) T.n_len (by decide +kernel) (pa_cons (pv 2) pa_nil))) (pa_cons (pe_op op_mod (pe_callTy call_int1 (by rfl) T.n_int (by decide +kernel) (pa_cons (pv 0) pa_nil)) pe_int) pa_nil)) (by rfl)) (pss_cons (ps_set (i := 5) sc_law_bent.nd rfl (Or.inl rfl) (pe_lst (pa_cons pe_str (pa_cons pe_str (pa_cons pe_str (pa_cons pe_str (pa_cons pe_str (pa_cons (pe_op op_mulS (pe_ix ix_str (pv 1) pe_int (fun _ _ => rfl)) pe_int) (pa_cons pe_str (pa_cons pe_non (pa_cons pe_int (pa_cons (pe_tup (pa_cons (pe_ix ix_str (pv 1) pe_int (fun _ _ => rfl)) pa_nil)) (pa_cons pe_str (pa_cons pe_str pa_nil)))))))))))))) (pss_cons (ps_if (pt_cmpR op_eq (pv 4) pe_int (nomark _)) (pss_one (ps_ret (pe_op op_catA (pe_slice sl_tupA (pv 2) po_none (po_some (pv 3))) (pe_slice sl_tupA (pv 2) (po_some (pe_op op_add (pv 3) pe_int)) po_none)))) pss_nil) (pss_cons (ps_if (pt_cmpR op_eq (pv 4) pe_int (nomark _)) (pss_one (ps_ret (pe_op op_catA (pv 2) (pe_tup (pa_cons (pe_ix ix_list (pv 5) (pe_op op_mod (pe_callTy call_int1 (by rfl) T.n_int (by decide +kernel) (pa_cons (pe_op op_fdiv (pv 0) pe_int) pa_nil)) pe_int) (fun _ _ => rfl)) pa_nil))))) pss_nil) (pss_cons (ps_if (pt_cmpR op_eq (pv 4) pe_int (nomark _)) (pss_one (ps_ret (pe_callTy call_list_of (by rfl) T.n_list (by decide +kernel) (pa_cons (pv 2) pa_nil)))) pss_nil) (pss_cons (ps_if (pt_cmpR op_lt (pv 4) pe_int (nomark _)) (pss_one (ps_ret (pe_op op_catA (pe_op op_catA (pe_slice sl_tupA (pv 2) po_none (po_some (pv 3))) (pe_tup (pa_cons (pe_ix ix_list (pv 5) (pe_op op_mod (pe_callTy call_int1 (by rfl) T.n_int (by decide +kernel) (pa_cons (pe_op op_fdiv (pv 0) pe_int) pa_nil)) pe_int) (fun _ _ => rfl)) pa_nil))) (pe_slice sl_tupA (pv 2) (po_some (pe_op op_add (pv 3) pe_int)) po_none)))) pss_nil) (pss_one (ps_ret (pv 2))))))))), ?_⟩
    have hl := cond_len c
    obtain ⟨z0, e0⟩ : ∃ z0, (zs z)[0]? = some z0 := ⟨(zs z)[0]'(by rw [zs_length]; have := l8_len z hz; omega), List.getElem?_eq_getElem _⟩
    have hz0 : z0 ∈ zs z := List.mem_of_getElem? e0
    have s0 : z0 < 0x110000 := l8_small z hz z0 hz0
    have fin : ∀ (t : Addr) (xs : List V) (H' : Hp), Same H H' → SqT K H' t xs → xs.length ≤ 100 → (∀ x ∈ xs, Good K H' x) → Q (.ref t) H' := fun t xs H' s h hl hg => by
      obtain ⟨ds, h1, h2⟩ := good_all hg
      refine q _ (.tuple ds) H' s (.tup h h1) ⟨by rw [← DpAll.len h1]; exact hl, fun d hd => (h2 d hd).1⟩ fun d0 ts e => ?_
      cases e
      exact (h2 d0 List.mem_cons_self).2
    refine ⟨_, rfl, _, _, rfl, rfl, ⟨by decide, by decide⟩, .inl ⟨_, rfl, _, rfl, a, condV c, rfl, .inr ha, _, _, rfl, rfl, by omega, ?_⟩⟩
    refine ⟨_, rfl, .inl ⟨_, rfl, _, _, rfl, rfl, pos9, _, _, rfl, ?_⟩⟩
    have zl : z.length ≤ sizeLine := Nat.le_trans (l8_len z hz).2 (by decide)
    have a0 : atI z.cps.toList 0 = some z0 := atI_nat (j := 0) e0
    have k0 : 0 ≤ r % 9 := Int.emod_nonneg _ (by decide)
    dsimp only
    refine seq_cut (fun σ1 H1 => ∃ (L : Addr) (odd : List V), σ1 = [some (.int r), some (.str z), some (.ref a), some (.int (r / 9 % ((condV c).length : Int))), some (.int (r % 9)), some (.ref L)] ∧ Same H H1 ∧ H1 L = some (.lst odd) ∧ odd.length = 12 ∧ ∀ x ∈ odd, Good K H1 x) ?_ ?_
    · rintro _ H1 ⟨L, odd, rfl, sm, hL, hn, hg⟩
      generalize r / 9 % ((condV c).length : Int) = at_
      generalize r % 9 = kd at k0 ⊢
      obtain ⟨x, hx, hxo⟩ := odd_at odd hn (r / 100)
      have ha1 := SqT.same sm ha
      have gc : ∀ (H' : Hp), ∀ x ∈ condV c, Good K H' x := fun H' => cond_good hz hc
      have gl : ∀ (lo hi : Option Int), (cutV (condV c) lo hi).length ≤ 3 := fun lo hi => by
        unfold cutV
        rw [List.length_take, List.length_drop]
        omega
      refine ⟨_, rfl, rfl, _, rfl, ?_⟩
      rw [dec_int]
      by_cases q0 : kd = 0
      · rw [decide_eq_true q0]
        refine iteT ⟨_, rfl, _, rfl, _, rfl, slice_go ha1 fun t1 H2 s2 h1 => ⟨_, rfl, _, rfl, _, _, rfl, rfl, _, rfl, ?_⟩⟩
        unfold tNoPart
        dsimp only
        refine slice_go (SqT.same s2 ha1) fun t2 H3 s3 h2 => ?_
        refine cat_go (SqT.same s3 h1) h2 (Nat.le_trans (Nat.add_le_add (gl _ _) (gl _ _)) (by decide)) fun t H4 s4 h4 => fin t _ H4 (((sm.trans s2).trans s3).trans s4) h4 ?_ fun y hy => ?_
        · rw [List.length_append]; exact Nat.le_trans (Nat.add_le_add (gl _ _) (gl _ _)) (by decide)
        · rcases List.mem_append.mp hy with h | h <;> exact gc _ _ (cut_sub _ _ _ _ h)
      rw [decide_eq_false q0]
      refine iteF ⟨_, rfl, rfl, _, rfl, ?_⟩
      rw [dec_int]
      by_cases q1 : kd = 1
      · rw [decide_eq_true q1]
        refine iteT ⟨_, rfl, _, rfl, _, rfl, _, _, rfl, rfl, ⟨by decide, by decide⟩, .inl ⟨_, rfl, _, _, rfl, rfl, pos12, L, odd, _, x, rfl, rfl, SqL.of hL, hx, by show 1 ≤ sizeLine; decide, fun u hu => ?_⟩⟩
        refine cat_go (SqT.same (same_upd hu) ha1) (SqT.of upd_same) (Nat.le_trans (show (condV c).length + 1 ≤ 4 by omega) (by decide)) fun t H4 s4 h4 => fin t _ H4 ((Same.up sm hu).trans s4) h4 ?_ fun y hy => ?_
        · rw [List.length_append]; show (condV c).length + 1 ≤ 100; omega
        · rcases List.mem_append.mp hy with h | h
          · exact gc _ _ h
          · obtain rfl := List.mem_singleton.mp h
            exact ((hg y hxo).same (same_upd hu)).same s4
      rw [decide_eq_false q1]
      refine iteF ⟨_, rfl, rfl, _, rfl, ?_⟩
      rw [dec_int]
      by_cases q2 : kd = 2
      · rw [decide_eq_true q2]
        obtain ⟨ds, h1, h2⟩ := good_all (gc H1)
        refine iteT ⟨_, rfl, a, _, rfl, .inr ha1, fun l hl' => q _ (.list ds) _ (Same.up sm hl') (Dp.lstNew upd_same (DpAll.same (same_upd hl') h1)) trivial fun d0 ts e => by cases e⟩
      rw [decide_eq_false q2]
      refine iteF ⟨_, rfl, _, _, rfl, rfl, _, rfl, ?_⟩
      by_cases q3 : kd < 7
      · rw [decide_eq_true q3]
        refine iteT ⟨_, rfl, _, rfl, _, rfl, slice_go ha1 fun t1 H2 s2 h1 => ?_⟩
        refine ⟨_, rfl, _, rfl, _, _, rfl, rfl, ⟨by decide, by decide⟩, .inl ⟨_, rfl, _, _, rfl, rfl, pos12, L, odd, _, x, rfl, rfl, SqL.of (s2 _ _ hL), hx, by show 1 ≤ sizeLine; decide, fun u hu => ?_⟩⟩
        refine cat_go (SqT.same (same_upd hu) h1) (SqT.of upd_same) (Nat.le_trans (Nat.add_le_add (gl _ _) (Nat.le_refl 1)) (by decide)) fun t3 H3 s3 h3 => ⟨_, rfl, _, rfl, _, _, rfl, rfl, _, rfl, ?_⟩
        unfold tNoPart
        dsimp only
        refine slice_go (SqT.same (((s2.trans (same_upd hu)).trans s3)) ha1) fun t4 H4 s4 h4 => ?_
        refine cat_go (SqT.same s4 h3) h4 ?_ fun t H5 s5 h5 => fin t _ H5 ((((((sm.trans s2).trans (same_upd hu)).trans s3)).trans s4).trans s5) h5 ?_ fun y hy => ?_
        · rw [List.length_append]; exact Nat.le_trans (Nat.add_le_add (Nat.add_le_add (gl _ _) (Nat.le_refl 1)) (gl _ _)) (by decide)
        · rw [List.length_append, List.length_append]; exact Nat.le_trans (Nat.add_le_add (Nat.add_le_add (gl _ _) (Nat.le_refl 1)) (gl _ _)) (by decide)
        · rcases List.mem_append.mp hy with h | h
          · rcases List.mem_append.mp h with h | h
            · exact gc _ _ (cut_sub _ _ _ _ h)
            · obtain rfl := List.mem_singleton.mp h
              exact (hg y hxo).same ((((s2.trans (same_upd hu)).trans s3).trans s4).trans s5)
          · exact gc _ _ (cut_sub _ _ _ _ h)
      · rw [decide_eq_false q3]
        exact iteF ⟨_, rfl, fin a _ _ sm ha1 (by omega) (gc _)⟩
    · intro nx' kk
      refine ⟨_, rfl, z, _, z0, rfl, rfl, zl, a0, z0, rfl, rfl, _, rfl, z, _, z0, rfl, rfl, zl, a0, by show 1 ≤ sizeLine; decide, fun u hu => ⟨by show 12 ≤ sizeLine; decide, fun L hL => kk _ _ ⟨L, _, rfl, Same.up (same_upd hu) hL, upd_same, rfl, ?_⟩⟩⟩
      have small1 : ∀ {x : Str}, (zs x).all (fun c => decide (c < 0x110000)) = true → x.length ≤ 100000 → ∀ H', Good K H' (.str x) := fun h1 h2 H' => good_str h2 fun c hc => of_decide_eq_true (List.all_eq_true.mp h1 c hc)
      intro x hx
      simp only [List.mem_cons, List.not_mem_nil, or_false] at hx
      rcases hx with rfl | rfl | rfl | rfl | rfl | rfl | rfl | rfl | rfl | rfl | rfl | rfl
      · exact small1 (by decide +kernel) (by decide +kernel) _
      · exact small1 (by decide +kernel) (by decide +kernel) _
      · exact small1 (by decide +kernel) (by decide +kernel) _
      · exact small1 (by decide +kernel) (by decide +kernel) _
      · exact small1 (by decide +kernel) (by decide +kernel) _
      · refine good_str (by show 5 ≤ 100000; decide) fun c hc => ?_
        have : c ∈ [z0, z0, z0, z0, z0] := hc
        simp only [List.mem_cons, List.not_mem_nil, or_false, or_self] at this
        rw [this]; exact s0
      · exact small1 (by decide +kernel) (by decide +kernel) _
      · exact good_one .non trivial (by decide +kernel)
      · exact good_one (.int 1) trivial (by decide +kernel)
      · refine good_one (d := .tuple [.str ⟨#[z0]⟩]) (.tup (SqT.of (same_upd hL _ _ upd_same)) (.cons (.str _) .nil)) trivial (shaped_of ?_ ?_)
        · have hs : SeqAt.shaped (.str ⟨#[z0]⟩) = true := shaped_str fun c hc => by
            have : c ∈ [z0] := hc
            obtain rfl := List.mem_singleton.mp this
            exact s0
          have h1 := (Bool.and_eq_true_iff.mp (show (PyData.canLay0 (.str ⟨#[z0]⟩) && decide _) = true from hs)).1
          simp only [PyData.canLay0]
          exact layAll_of fun d hd => by rw [List.mem_singleton.mp hd]; exact h1
        · simp [PyData.depth, PyData.depthAll]
      · exact small1 (by decide +kernel) (by decide +kernel) _
      · exact small1 (by decide +kernel) (by decide +kernel) _
end
end K3
set_option Elab.async false
set_option linter.all false
set_option maxRecDepth 100000
set_option maxHeartbeats 8000000
namespace K3
open PySem PySem.Spec PyProof.Rows L2 FX
def standD : Stand → PyData
  | .m z => .int z
  | .b x y => .tuple [.int x, .int y]
  | .l ps => placesD ps
theorem stand_dp {K : PySem.W.Frag} {H : Hp} {v : V} {s : Stand} (h : StandAt K H v s) : Dp K H v (standD s) := by
  cases s with
  | m z => obtain rfl := h; exact .int z
  | b x y => obtain ⟨t, rfl, h2⟩ := h; exact .tup h2 (.cons (.int x) (.cons (.int y) .nil))
  | l ps => obtain ⟨t, rfl, h2⟩ := h; exact .tup h2 (dpNats ps)
theorem eqv_nats : ∀ ps : List Nat, PyData.eqvAll (ps.map fun k : Nat => PyData.int k) (ps.map fun k : Nat => PyData.int k) = true
  | [] => by simp [PyData.eqvAll]
  | p :: ps => by
    have ih := eqv_nats ps
    simp only [List.map_cons, PyData.eqvAll, PyData.eqv, ih]
    simp
theorem stand_eqv (s : Stand) : PyData.eqv (standD s) (standD s) = true := by
  cases s with
  | m z => simp [standD, PyData.eqv]
  | b x y => simp [standD, PyData.eqv, PyData.eqvAll]
  | l ps =>
    show PyData.eqv (.tuple _) (.tuple _) = true
    simp only [PyData.eqv]
    exact eqv_nats ps
theorem stand_shaped (s : Stand) : SeqAt.shaped (standD s) = true := by
  cases s with
  | m z => exact shaped_of (by simp [standD, PyData.canLay0]) (by simp [standD, PyData.depth])
  | b x y => exact shaped_of (by simp [standD, PyData.canLay0, PyData.canLayAll0]) (by simp [standD, PyData.depth, PyData.depthAll])
  | l ps =>
    refine shaped_of ?_ ?_
    · show PyData.canLay0 (.tuple _) = true
      simp only [PyData.canLay0]
      exact layAll_of fun d hd => by obtain ⟨k, _, rfl⟩ := List.mem_map.mp hd; simp [PyData.canLay0]
    · show PyData.depth (.tuple _) ≤ 64
      have h1 := depthAll_of (ds := ps.map fun k : Nat => PyData.int k) (n := 0) fun d hd => by obtain ⟨k, _, rfl⟩ := List.mem_map.mp hd; simp [PyData.depth]
      simp only [PyData.depth]
      omega
theorem few_first {zs : List Nat} {c : Cond} (h : CondOk zs c) : StFew (first0 c) := by
  cases c with
  | eq b t => trivial
  | btw a b => trivial
  | like t => exact Nat.le_trans (skips_len t [0]) (by have := h.1; omega)
theorem few_next {zs : List Nat} {r : Nat → Nat} {c : Cond} {s : Stand} {d : Nat} (h : CondOk zs c) (hs : StOk c s) : StFew (nextS r c s d) := by
  cases c with
  | eq b t => cases s <;> first | trivial | exact hs.elim
  | btw a b => cases s <;> first | trivial | exact hs.elim
  | like t =>
    cases s with
    | l ps => exact Nat.le_trans (skips_len t _) (by have := h.1; omega)
    | m z => exact hs.elim
    | b x y => exact hs.elim
theorem few_fold {zs : List Nat} {r : Nat → Nat} {c : Cond} (h : CondOk zs c) : ∀ (x : List Nat) (s : Stand), StOk c s → StFew s → StFew (x.foldl (nextS r c) s)
  | [], s, _, hf => hf
  | d :: x, s, hs, _ => few_fold h x _ (next_ok h hs) (few_next h hs)
section
variable {P : Program} {w : World} {K : PySem.W.Frag} {mg : Str → Option Value} {base : Heap} {A : Ad}
theorem ix_one {l : List Nat} {a b : Nat} (ha : a ∈ l) (hb : b ∈ l) (h : ix l a = ix l b) : a = b := by
  have h1 := idxOf_at ha
  have h2 := idxOf_at hb
  rw [show l.idxOf a = l.idxOf b from h, h2] at h1
  exact (Option.some.inj h1).symm
theorem mk_same3 {H1 : Hp} {x dx : Addr} {o : HO} (nx : H1 x = none) (ndx : H1 dx = none) : Same H1 (hid [x] (upd (upd H1 dx (.own x)) x o)) := by
  rw [hid_upd List.mem_cons_self]
  intro b u e
  rw [hid_out (by simp; exact ne_of_none e nx), upd_ne (ne_of_none e ndx)]
  exact e
theorem l8_star : ∀ z ∈ L8, 42 ∉ zs z := by decide +kernel
def sp_law (K : PySem.W.Frag) : Sp := fun vs H Q _ => ∃ (a : Addr) (ns : List Int), vs = [.ref a] ∧ SqL K H a (ns.map V.int) ∧ ns.length ≤ 63 ∧ ∀ H', Q (.bl true) H'
theorem ok_law (T : Txt K mg A) : FnOk P w K mg base CX0 8 A.a_law A.d_law ["script"] (sp_law K) := by
  refine T.f_law.F.ok sc_law (fun vs H Q E h => ?_) (fun cdv Ar outer s H vs Q E hr h => ?_)
  · obtain ⟨a, ns, rfl, _⟩ := h
    rfl
  · obtain ⟨a, ns, rfl, hS1, hS2, q⟩ := h
    have hS : Scr K H a ns := ⟨hS1, hS2⟩
    refine ⟨_, (pss_cons (ps_set (i := 1) sc_law.nd rfl (Or.inl rfl) (pe_call (ok_law_letters T) (hr.mono (by decide)) (by rfl) T.f_law_letters.g T.f_law_letters.F.kp T.f_law_letters.b .nil pass0 (pa_cons (pv 0) (pa_cons pe_int pa_nil)))) (pss_cons (ps_set (i := 2) sc_law.nd rfl (Or.inl rfl) (pe_call (ok_law_rows T) (hr.mono (by decide)) (by rfl) T.f_law_rows.g T.f_law_rows.F.kp T.f_law_rows.b .nil pass0 (pa_cons (pv 0) (pa_cons pe_int (pa_cons (pv 1) (pa_cons pe_int pa_nil)))))) (pss_cons (ps_set (i := 3) sc_law.nd rfl (Or.inl rfl) (pe_make T.mkC (ok_Machine_init T) (hr.mono (by decide)) (by rfl) T.g_Machine T.f_Machine_init.b .nil pass0 (pa_cons (pv 1) (pa_cons (pv 2) pa_nil)))) (pss_cons (ps_if (pt_cmpR (op_neD hr.units) (pe_glob (v := .ref A.t_KINDS) rfl T.c_KINDS rfl) (pe_tup (pa_cons pe_str (pa_cons pe_str (pa_cons pe_str (pa_cons pe_str pa_nil))))) (nomark _)) (pss_one (ps_ret pe_bl)) pss_nil) (pss_cons (ps_for PassesOwn.never rfl (pi_range1 (by rfl) T.n_range (pa_cons pe_int pa_nil)) (pg_name (i := 4) sc_law.nd rfl (Or.inl rfl)) (pss_cons (ps_set (i := 5) sc_law.nd rfl (Or.inl rfl) (pe_call (ok_law_condition T) (hr.mono (by decide)) (by rfl) T.f_law_condition.g T.f_law_condition.F.kp T.f_law_condition.b .nil pass0 (pa_cons (pv 0) (pa_cons (pe_op op_add pe_int (pe_op op_mul pe_int (pv 4))) (pa_cons (pv 1) pa_nil))))) (pss_cons (ps_set (i := 6) sc_law.nd rfl (Or.inl rfl) (pe_call (ok_law_value T) (hr.mono (by decide)) (by rfl) T.f_law_value.g T.f_law_value.F.kp T.f_law_value.b .nil pass0 (pa_cons (pv 0) (pa_cons (pe_op op_add pe_int (pv 4)) (pa_cons (pv 1) (pa_cons pe_int pa_nil)))))) (pss_cons (ps_par (i := 7) (j := 8) (by rfl) sc_law.nd rfl rfl (by decide) rfl rfl (pa_cons (pe_ix ix_tup (pe_call (ok_law_ends T) (hr.mono (by decide)) (by rfl) T.f_law_ends.g T.f_law_ends.F.kp T.f_law_ends.b .nil pass0 (pa_cons (pv 1) (pa_cons (pv 2) (pa_cons (pv 6) pa_nil)))) pe_int (fun _ _ => rfl)) (pa_cons (pe_call (ok_law_first_stand T) (hr.mono (by decide)) (by rfl) T.f_law_first_stand.g T.f_law_first_stand.F.kp T.f_law_first_stand.b .nil pass0 (pa_cons (pv 5) pa_nil)) pa_nil)) (by rfl)) (pss_cons (ps_for PassesOwn.never rfl (pi_str (pv 7)) (pg_name (i := 9) sc_law.nd rfl (Or.inl rfl)) (pss_one (ps_set (i := 8) sc_law.nd rfl (Or.inl rfl) (pe_call (ok_law_next_stand T) (hr.mono (by decide)) (by rfl) T.f_law_next_stand.g T.f_law_next_stand.F.kp T.f_law_next_stand.b .nil pass0 (pa_cons (pv 1) (pa_cons (pv 5) (pa_cons (pv 8) (pa_cons (pv 9) pa_nil)))))))) (pss_cons (ps_set (i := 10) sc_law.nd rfl (Or.inl rfl) (pe_call (ok_law_is_met T) (hr.mono (by decide)) (by rfl) T.f_law_is_met.g T.f_law_is_met.F.kp T.f_law_is_met.b .nil pass0 (pa_cons (pv 1) (pa_cons (pv 5) (pa_cons (pv 7) pa_nil))))) (pss_cons (ps_if (PW.pt (pw_or (pt_cmpR (op_neD hr.units) (pe_call (ok_stand T) (hr.mono (by decide)) (by rfl) T.f_stand.g T.f_stand.F.kp T.f_stand.b .nil pass0 (pa_cons (pv 3) (pa_cons (pv 5) (pa_cons (pv 6) pa_nil)))) (pv 8) (nomark _)) (pw_or1 (pt_cmpR op_ne (pe_call (ok_law_met T) (hr.mono (by decide)) (by rfl) T.f_law_met.g T.f_law_met.F.kp T.f_law_met.b .nil pass0 (pa_cons (pv 5) (pa_cons (pv 8) pa_nil))) (pv 10) (nomark _))))) (pss_one (ps_ret pe_bl)) pss_nil) (pss_cons (ps_if (pt_cmpR op_ne (pe_call (ok_meets T) (hr.mono (by decide)) (by rfl) T.f_meets.g T.f_meets.F.kp T.f_meets.b .nil pass0 (pa_cons (pv 3) (pa_cons (pv 5) (pa_cons (pv 6) pa_nil)))) (pv 10) (nomark _)) (pss_one (ps_ret pe_bl)) pss_nil) (pss_cons (ps_set (i := 11) sc_law.nd rfl (Or.inl rfl) (pe_call (ok_law_bent T) (hr.mono (by decide)) (by rfl) T.f_law_bent.g T.f_law_bent.F.kp T.f_law_bent.b .nil pass0 (pa_cons (pe_callTy call_int1 (by rfl) T.n_int (by decide +kernel) (pa_cons (pe_call (ok_law_number T) (hr.mono (by decide)) (by rfl) T.f_law_number.g T.f_law_number.F.kp T.f_law_number.b .nil pass0 (pa_cons (pv 0) (pa_cons (pe_op op_add pe_int (pv 4)) pa_nil))) pa_nil)) (pa_cons (pv 1) (pa_cons (pv 5) pa_nil))))) (pss_one (ps_if (PW.pt (pw_or (pt_cmpR op_ne (pe_call (ok_is_condition T) (hr.mono (by decide)) (by rfl) T.f_is_condition.g T.f_is_condition.F.kp T.f_is_condition.b .nil pass0 (pa_cons (pv 3) (pa_cons (pv 11) pa_nil))) (pe_call (ok_law_is_condition T) (hr.mono (by decide)) (by rfl) T.f_law_is_condition.g T.f_law_is_condition.F.kp T.f_law_is_condition.b .nil pass0 (pa_cons (pv 1) (pa_cons (pv 11) pa_nil))) (nomark _)) (pw_or1 (pt_not (pt_val (pe_call (ok_is_condition T) (hr.mono (by decide)) (by rfl) T.f_is_condition.g T.f_is_condition.F.kp T.f_is_condition.b .nil pass0 (pa_cons (pv 3) (pa_cons (pv 5) pa_nil)))))))) (pss_one (ps_ret pe_bl)) pss_nil))))))))))) (pss_one (ps_ret pe_bl))))))), ?_⟩
    refine ⟨_, rfl, a, ns, 0, rfl, hS, by decide, by decide, fun z H1 s1 hz => ?_⟩
    refine ⟨_, rfl, _, rfl, a, ns, 10, z, 4, rfl, hS.same s1, by decide, by decide, hz, by decide, by decide, fun v H2 R s2 hok hlen hv => ?_⟩
    have hdue := dp_new hv
    obtain ⟨t, xs, rfl, hts, hta⟩ := Dp.tupOf hdue
    refine ⟨_, rfl, _, rfl, ?_⟩
    intro y0 dy0 ny0 ndy0 ney0
    have sA := mk_same3 (o := .ins A.C dy0 []) ny0 ndy0
    refine ⟨y0, dy0, t, z, R, rfl, upd_same, hz, hok, Nat.le_trans hlen (by decide), Dp.same sA hdue, fun H6 sB hy => ⟨rfl, ?_⟩⟩
    have s6 : Same H2 H6 := sA.trans (sB.trans (hid_sub _ _))
    have hM : IsM K A.C H6 y0 z R := ⟨⟨dy0, t, hy, Dp.same s6 hdue⟩, hz, hok, Nat.le_trans hlen (by decide)⟩
    have s16 : Same H H6 := (s1.trans s2).trans s6
    have hdue6 : Dp K H6 (.ref t) (rowsD R) := Dp.same s6 hdue
    have zl : z.length ≤ 100 := l8_le hz
    refine ⟨by show 4 ≤ sizeLine; decide, fun p hp => ⟨.tuple kindsD, .tuple kindsD, .tup (kinds_seq T _) (.cons (.str _) (.cons (.str _) (.cons (.str _) (.cons (.str _) .nil)))), Dp.tupNew upd_same (.cons (.str _) (.cons (.str _) (.cons (.str _) (.cons (.str _) .nil)))), by decide +kernel, by decide +kernel, _, rfl, ?_⟩⟩
    rw [show (!PyData.eqv (.tuple kindsD) (.tuple kindsD)) = false by decide +kernel]
    have s6p : Same H6 (upd H6 p (.tup [V.str "equal", V.str "begins", V.str "between", V.str "like"])) := same_upd hp
    refine iteF ⟨6, rfl, by decide, by decide, for_range (lo := 0) (n := 6) (fun i σ H' => Same H6 H' ∧ ∃ o4 o5 o6 o7 o8 o9 o10 o11, σ = [some (.ref a), some (.str z), some (.ref t), some (.ref y0), o4, o5, o6, o7, o8, o9, o10, o11]) ⟨s6p, none, none, none, none, none, none, none, none, rfl⟩ ?_ ?_⟩
    · rintro i σ H7 hi ⟨sm, o4, o5, o6, o7, o8, o9, o10, o11, rfl⟩
      refine ⟨_, rfl, _, rfl, _, _, rfl, rfl, .inl ⟨by decide, by decide⟩, _, _, rfl, rfl, _, rfl, a, ns, 50 + 3 * (0 + (i : Int)), z, rfl, hS.same (s16.trans sm), by omega, by omega, hz, fun ct c H8 s8 hc ht => ?_⟩
      refine ⟨_, rfl, _, rfl, _, _, rfl, rfl, _, rfl, a, ns, 80 + (0 + (i : Int)), z, 9, rfl, hS.same ((s16.trans sm).trans s8), by omega, by omega, hz, by decide, fun x H9 s9 xl xz => ?_⟩
      have s69 : Same H6 H9 := (sm.trans s8).trans s9
      refine ⟨_, rfl, _, rfl, _, rfl, z, x, _, R, rfl, hz, Dp.same s69 hdue6, hok, by omega, xz, fun te H10 s10 hte => ?_⟩
      have ht10 : SqT K H10 ct (condV c) := SqT.same (s9.trans s10) ht
      refine ⟨te, _, 1, _, rfl, rfl, hte, rfl, _, rfl, ct, zs z, c, rfl, ht10, hc, fun v11 H11 s11 hv11 => ⟨_, _, rfl, ?_⟩⟩
      have mz : ∀ d ∈ madeM (zs z) R (zs x), d ∈ zs z := runM_out hok (zs x) 0 hok.pos xz
      have ml : (madeM (zs z) R (zs x)).length ≤ 9 := by
        have := runM_len hok (zs x) 0 hok.pos xz
        rw [zs_length] at this
        exact Nat.le_trans this xl
      generalize hmade : madeM (zs z) R (zs x) = made at mz ml
      have s611 : Same H6 H11 := (s69.trans s10).trans s11
      refine ⟨_, rfl, S made, rfl, ?_⟩
      have nmade : (S made).cps.size = made.length := S_len made
      refine for_it (walk_str (z := S made)) (fun j σ H' => Same H11 H' ∧ ∃ v8 o9 o10 o11, σ = [some (.ref a), some (.str z), some (.ref t), some (.ref y0), some (.int ((0 : Int) + (i : Int))), some (.ref ct), some (.str x), some (.str (S made)), some v8, o9, o10, o11] ∧ StandAt K H' v8 ((made.take j).foldl (nextS (ix (zs z)) c) (first0 c)))
        ⟨Same.refl _, _, _, _, _, rfl, hv11⟩ (fun _ _ _ _ _ => trivial) ?_ ?_
      · rintro j y σ H12 H13 hj ⟨sm12, v8, o9, o10, o11, rfl, hv8⟩ ⟨rfl, d, hd, rfl⟩
        have hd' : made[j]? = some d := by have := str_at hd; rwa [zs_S] at this
        have dz : d ∈ zs z := mz d (List.mem_of_getElem? hd')
        have hst := fold_ok (r := ix (zs z)) hc (made.take j) _ (first_ok hc)
        have hfw := few_fold (r := ix (zs z)) hc (made.take j) _ (first_ok hc) (few_first hc)
        refine ⟨_, rfl, _, rfl, _, rfl, _, rfl, z, ct, c, v8, _, d, rfl, hz, SqT.same (s11.trans sm12) ht10, hc, hv8, hst, hfw, dz, fun v' H14 s14 h14 => ?_⟩
        refine ⟨sm12.trans s14, v', _, _, _, rfl, ?_⟩
        rw [take_succ' hd', List.foldl_append]
        exact h14
      · rintro σ H12 ⟨sm12, v8, o9, o10, o11, rfl, hv8⟩
        rw [nmade, List.take_length] at hv8
        have hst := fold_ok (r := ix (zs z)) hc made _ (first_ok hc)
        have hmet := met_is (x := made) hc (fun a ha b hb e => ix_one ha hb e) (l8_star z hz) mz
        generalize hfs : made.foldl (nextS (ix (zs z)) c) (first0 c) = sd at hv8 hst hmet
        have ht12 := SqT.same (s11.trans sm12) ht10
        refine ⟨_, rfl, _, rfl, _, rfl, z, ct, c, made, rfl, hz, ht12, hc, by omega, mz, fun H13 s13 => ?_⟩
        have s613 : Same H6 H13 := (s611.trans sm12).trans s13
        have ht13 := SqT.same s13 ht12
        refine ⟨_, rfl, _, rfl, _, rfl, y0, ct, x, z, R, c, rfl, hM.same s613, ht13, hc, by omega, xz, fun v14 H14 s14 hv14 => ?_⟩
        rw [hmade, hfs] at hv14
        have hv8' := (hv8.same s13).same s14
        refine ⟨_, rfl, standD sd, standD sd, stand_dp hv14, stand_dp hv8', stand_shaped _, stand_shaped _, _, rfl, ?_⟩
        rw [stand_eqv]
        refine iteF ⟨_, rfl, _, rfl, ct, zs z, c, v8, sd, rfl, SqT.same s14 ht13, hc, hv8', hst, fun H15 s15 => ⟨_, rfl, rfl, _, rfl, ?_⟩⟩
        rw [hmet, show (!decide (V.bl (isMet (ix (zs z)) c made) = V.bl (isMet (ix (zs z)) c made))) = false by simp]
        have ht15 := SqT.same (s14.trans s15) ht13
        have s615 := (s613.trans s14).trans s15
        refine iteF ⟨_, rfl, _, rfl, _, rfl, y0, ct, x, z, R, c, rfl, hM.same s615, ht15, hc, by omega, xz, fun H16 s16 => ⟨_, rfl, rfl, _, rfl, ?_⟩⟩
        rw [hmade, hfs, hmet, show (!decide (V.bl (isMet (ix (zs z)) c made) = V.bl (isMet (ix (zs z)) c made))) = false by simp]
        have s616 := s615.trans s16
        have ht16 := SqT.same s16 ht15
        refine iteF ⟨_, rfl, _, rfl, _, _, rfl, rfl, a, ns, 90 + (0 + (i : Int)), rfl, hS.same ((s1.trans s2).trans (s6.trans s616)), by omega, by omega, fun r H17 s17 r0 r1 => .inl ⟨_, rfl, ?_⟩⟩
        refine ⟨_, rfl, _, rfl, r, z, ct, c, rfl, r0, hz, SqT.same s17 ht16, hc, fun vb db H18 s18 hvb hsb hshb => ?_⟩
        have s618 := (s616.trans s17).trans s18
        refine ⟨_, rfl, _, rfl, y0, z, R, vb, db, rfl, hM.same s618, hvb, hsb, fun H19 s19 => ?_⟩
        refine ⟨_, rfl, _, rfl, z, vb, db, rfl, zl, Dp.same s19 hvb, hsb, hshb, fun H20 s20 => ⟨rfl, _, rfl, ?_⟩⟩
        rw [show (!decide (V.bl (condB z db) = V.bl (condB z db))) = false by simp]
        have s620 := (s618.trans s19).trans s20
        have ht20 := SqT.same (((s17.trans s18).trans s19).trans s20) ht16
        refine iteF ⟨_, rfl, _, rfl, y0, z, R, _, condD c, rfl, hM.same s620, cond_dp ht20, cond_small hc, fun H21 s21 => ⟨_, rfl, ?_⟩⟩
        rw [cond_true hc]
        exact iteF ⟨s620.trans s21, _, _, _, _, _, _, _, _, rfl⟩
    · rintro σ H7 ⟨sm, o4, o5, o6, o7, o8, o9, o10, o11, rfl⟩
      exact q _
end
end K3
set_option Elab.async false
set_option linter.all false
set_option maxRecDepth 100000
set_option maxHeartbeats 8000000
namespace K3
open PySem PySem.Spec PyProof.Rows L2 FX
theorem binds_law {K : PySem.W.Frag} {mg : Str → Option Value} {A : Ad} (T : Txt K mg A) (s : Shared) (u : Value) : BindsTo s A.d_law ⟨[u], []⟩ [("script", u)] := by
  obtain ⟨_, _, _, _, _, _, _, _, _, e, _, _⟩ := T.f_law.F.ex
  rw [e]
  exact .of_eq rfl
theorem walk {l : PySem.W.OpenLaw} {q : Program} {loose : List Str} {XP : (Str → Option Value) → Heap → Prop} {YP : World → Heap → Prop} {d : DefRec} {K : Params → PySem.W.Frag} (hn : l.most = some 63) (hdf : d.params.defaults = [])
    (hY : ∀ (w : World) (h : Heap), YP w h → (K w.params).In h)
    (F : ∀ (w : World) (mg : Str → Option Value) (fa : Addr) (h : Heap), (K w.params).In h → h.Ns mainGlobals mg → mg d.name = some (.ref fa) →
      ∃ fd : FuncData, (∀ (s : Shared) (u : Value), BindsTo s fd ⟨[u], []⟩ [("script", u)]) ∧ ∀ base : Heap, (K w.params).In base → base.Ns mainGlobals mg → FnOk l.prog w (K w.params) mg base CX0 8 fa fd ["script"] (sp_law (K w.params))) :
    PySem.W.WalkO q loose XP YP l.row.toRowW d [] (fun f vs => PySem.call f vs) :=
  L2.walk_of (n := 63) (k := 8) (x := "script") (CX := fun _ => CX0) (sp := fun w => sp_law (K w.params)) hn (by decide) hdf ⟨rfl, by decide, by decide⟩ hY F (fun _ _ a ns hl _ hS => ⟨a, ns, rfl, hS, hl, fun _ => rfl⟩) fun _ _ _ _ _ z => z
theorem fin {l : PySem.W.OpenLaw} {w : World} {K : PySem.W.Frag} {mg : Str → Option Value} {fa : Addr} (X : ∃ A : Ad, Txt K mg A ∧ A.a_law = fa) :
    ∃ fd : FuncData, (∀ (s : Shared) (u : Value), BindsTo s fd ⟨[u], []⟩ [("script", u)]) ∧ ∀ base : Heap, K.In base → base.Ns mainGlobals mg → FnOk l.prog w K mg base CX0 8 fa fd ["script"] (sp_law K) := by
  obtain ⟨A, T, rfl⟩ := X
  exact ⟨A.d_law, binds_law T, fun base _ _ => ok_law T⟩
end K3
open PySem PySem.W PyProof.Rows in
set_option maxRecDepth 100000 in
set_option maxHeartbeats 0 in
theorem PySem.Challenge.cw_foldlook_k03_whole_conditions_holds : PySem.Challenge.rw_foldlook_k03_whole_conditions.Holds := by
  w_on; o_law; k_head; (case hw => w_witness2)
  k_fill
  refine K3.walk (l := PySem.Challenge.rw_foldlook_k03_whole_conditions) rfl rfl (fun w h Y => PySem.W.kIn_of Y) ?F
  case F =>
    intro w mg fa h KX G hmg
    refine K3.fin ?_
    refine' K3.all_mk KX G hmg ?aC ?a1 ?l1 ?c1 ?k1 ?a2 ?l2 ?c2 ?k2 ?a3 ?l3 ?c3 ?k3 ?a4 ?l4 ?c4 ?k4 ?a5 ?l5 ?c5 ?k5 ?a6 ?i6 ?l6 ?c6 ?k6 ?a7 ?ag7 ?at7 ?ar7 ?l7 ?c7 ?k7 ?a8 ?ag8 ?at8 ?ar8 ?l8 ?c8 ?k8 ?a9 ?i9 ?l9 ?c9 ?k9 ?a10 ?i10 ?l10 ?c10 ?k10 ?a11 ?i11 ?l11 ?c11 ?k11 ?a12 ?l12 ?c12 ?k12 ?a13 ?l13 ?c13 ?k13 ?a14 ?l14 ?c14 ?k14 ?a15 ?l15 ?c15 ?k15 ?a16 ?l16 ?c16 ?k16 ?a17 ?l17 ?c17 ?k17 ?a18 ?l18 ?c18 ?k18 ?a19 ?l19 ?c19 ?k19 ?a20 ?l20 ?c20 ?k20 ?a21 ?l21 ?c21 ?k21 ?a22 ?l22 ?c22 ?k22 ?a23 ?l23 ?c23 ?k23 ?a24 ?l24 ?c24 ?k24 ?a25 ?l25 ?c25 ?k25 ?a26 ?l26 ?c26 ?k26 ?a27 ?l27 ?c27 ?k27 ?a28 ?l28 ?c28 ?k28 ?a29 ?l29 ?c29 ?k29 ?a30 ?l30 ?c30 ?k30 ?a31 ?l31 ?c31 ?k31 ?a32 ?l32 ?c32 ?k32 ?a33 ?l33 ?c33 ?k33 ?a34 ?l34 ?c34 ?k34 ?a35 ?l35 ?c35 ?k35 ?a36 ?l36 ?c36 ?k36 ?a37 ?l37 ?c37 ?k37 ?a38 ?l38 ?c38 ?k38 ?a39 ?l39 ?c39 ?k39 ?a40 ?l40 ?c40 ?k40 ?a41 ?l41 ?c41 ?k41 ?a42 ?l42 ?c42 ?k42 ?a43 ?l43 ?c43 ?k43 ?a44 ?l44 ?c44 ?k44 ?pg ?hd ?po ?sa ?mk ?kc ?iA ?iN ?iT ?iM ?ne ?na0 ?na1 ?ccSIGNS ?ccMOST_STATES ?ccMOST_SIGNS ?ccUNLIKE ?ccAHEAD ?ccBEHIND ?ccKINDS ?llKINDS ?zall ?zany ?zbool ?zenumerate ?zint ?zisinstance ?zlen ?zlist ?zrange ?zset ?zsorted ?zstr ?zsum ?zsuper ?ztuple
    (case aC => k_is)
    (case a1 => k_is)
    (case l1 => k_is)
    (case c1 => k_is)
    (case k1 => k_is)
    (case a2 => k_is)
    (case l2 => k_is)
    (case c2 => k_is)
    (case k2 => k_is)
    (case a3 => k_is)
    (case l3 => k_is)
    (case c3 => k_is)
    (case k3 => k_is)
    (case a4 => k_is)
    (case l4 => k_is)
    (case c4 => k_is)
    (case k4 => k_is)
    (case a5 => k_is)
    (case l5 => k_is)
    (case c5 => k_is)
    (case k5 => k_is)
    (case a6 => k_is)
    (case i6 => k_is)
    (case l6 => k_is)
    (case c6 => k_is)
    (case k6 => k_is)
    (case a7 => k_is)
    (case ag7 => k_is)
    (case at7 => k_is)
    (case ar7 => k_is)
    (case l7 => k_is)
    (case c7 => k_is)
    (case k7 => k_is)
    (case a8 => k_is)
    (case ag8 => k_is)
    (case at8 => k_is)
    (case ar8 => k_is)
    (case l8 => k_is)
    (case c8 => k_is)
    (case k8 => k_is)
    (case a9 => k_is)
    (case i9 => k_is)
    (case l9 => k_is)
    (case c9 => k_is)
    (case k9 => k_is)
    (case a10 => k_is)
    (case i10 => k_is)
    (case l10 => k_is)
    (case c10 => k_is)
    (case k10 => k_is)
    (case a11 => k_is)
    (case i11 => k_is)
    (case l11 => k_is)
    (case c11 => k_is)
    (case k11 => k_is)
    (case a12 => k_is)
    (case l12 => k_is)
    (case c12 => k_is)
    (case k12 => k_is)
    (case a13 => k_is)
    (case l13 => k_is)
    (case c13 => k_is)
    (case k13 => k_is)
    (case a14 => k_is)
    (case l14 => k_is)
    (case c14 => k_is)
    (case k14 => k_is)
    (case a15 => k_is)
    (case l15 => k_is)
    (case c15 => k_is)
    (case k15 => k_is)
    (case a16 => k_is)
    (case l16 => k_is)
    (case c16 => k_is)
    (case k16 => k_is)
    (case a17 => k_is)
    (case l17 => k_is)
    (case c17 => k_is)
    (case k17 => k_is)
    (case a18 => k_is)
    (case l18 => k_is)
    (case c18 => k_is)
    (case k18 => k_is)
    (case a19 => k_is)
    (case l19 => k_is)
    (case c19 => k_is)
    (case k19 => k_is)
    (case a20 => k_is)
    (case l20 => k_is)
    (case c20 => k_is)
    (case k20 => k_is)
    (case a21 => k_is)
    (case l21 => k_is)
    (case c21 => k_is)
    (case k21 => k_is)
    (case a22 => k_is)
    (case l22 => k_is)
    (case c22 => k_is)
    (case k22 => k_is)
    (case a23 => k_is)
    (case l23 => k_is)
    (case c23 => k_is)
    (case k23 => k_is)
    (case a24 => k_is)
    (case l24 => k_is)
    (case c24 => k_is)
    (case k24 => k_is)
    (case a25 => k_is)
    (case l25 => k_is)
    (case c25 => k_is)
    (case k25 => k_is)
    (case a26 => k_is)
    (case l26 => k_is)
    (case c26 => k_is)
    (case k26 => k_is)
    (case a27 => k_is)
    (case l27 => k_is)
    (case c27 => k_is)
    (case k27 => k_is)
    (case a28 => k_is)
    (case l28 => k_is)
    (case c28 => k_is)
    (case k28 => k_is)
    (case a29 => k_is)
    (case l29 => k_is)
    (case c29 => k_is)
    (case k29 => k_is)
    (case a30 => k_is)
    (case l30 => k_is)
    (case c30 => k_is)
    (case k30 => k_is)
    (case a31 => k_is)
    (case l31 => k_is)
    (case c31 => k_is)
    (case k31 => k_is)
    (case a32 => k_is)
    (case l32 => k_is)
    (case c32 => k_is)
    (case k32 => k_is)
    (case a33 => k_is)
    (case l33 => k_is)
    (case c33 => k_is)
    (case k33 => k_is)
    (case a34 => k_is)
    (case l34 => k_is)
    (case c34 => k_is)
    (case k34 => k_is)
    (case a35 => k_is)
    (case l35 => k_is)
    (case c35 => k_is)
    (case k35 => k_is)
    (case a36 => k_is)
    (case l36 => k_is)
    (case c36 => k_is)
    (case k36 => k_is)
    (case a37 => k_is)
    (case l37 => k_is)
    (case c37 => k_is)
    (case k37 => k_is)
    (case a38 => k_is)
    (case l38 => k_is)
    (case c38 => k_is)
    (case k38 => k_is)
    (case a39 => k_is)
    (case l39 => k_is)
    (case c39 => k_is)
    (case k39 => k_is)
    (case a40 => k_is)
    (case l40 => k_is)
    (case c40 => k_is)
    (case k40 => k_is)
    (case a41 => k_is)
    (case l41 => k_is)
    (case c41 => k_is)
    (case k41 => k_is)
    (case a42 => k_is)
    (case l42 => k_is)
    (case c42 => k_is)
    (case k42 => k_is)
    (case a43 => k_is)
    (case l43 => k_is)
    (case c43 => k_is)
    (case k43 => k_is)
    (case a44 => k_is)
    (case l44 => k_is)
    (case c44 => k_is)
    (case k44 => k_is)
    (case pg => k_is)
    (case hd => k_is)
    (case po => k_is)
    (case sa => k_is)
    (case mk => k_is)
    (case kc => k_is)
    (case iA => k_is)
    (case iN => k_is)
    (case iT => k_is)
    (case iM => k_is)
    (case ne => k_is)
    (case na0 => k_is)
    (case na1 => k_is)
    (case ccSIGNS => k_is)
    (case ccMOST_STATES => k_is)
    (case ccMOST_SIGNS => k_is)
    (case ccUNLIKE => k_is)
    (case ccAHEAD => k_is)
    (case ccBEHIND => k_is)
    (case ccKINDS => k_is)
    (case llKINDS => k_is)
    (case zall => k_is)
    (case zany => k_is)
    (case zbool => k_is)
    (case zenumerate => k_is)
    (case zint => k_is)
    (case zisinstance => k_is)
    (case zlen => k_is)
    (case zlist => k_is)
    (case zrange => k_is)
    (case zset => k_is)
    (case zsorted => k_is)
    (case zstr => k_is)
    (case zsum => k_is)
    (case zsuper => k_is)
    (case ztuple => k_is)
