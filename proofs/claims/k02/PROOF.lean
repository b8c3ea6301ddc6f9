import PyProof.Rows.All
import Wide.All
import OpenK.AllK
import Wide.FinOn
import PySem.Challenge.RW_foldlook_k02_whole_behind
import KE.GoesEnum
import HandS.ForMost
import HandS.ForExc
import HandS.Property
import HandS.OwnEq
import HandS.Deep
import HandS.TupMul
import HandS.TupAny
import HandS.IsInst
import HandS.Walk
import HandS.Strs
import HandS.Conv
import HandS.Replace
import HandS.Small
import HandS.FStr
import HandS.TryMany
set_option Elab.async false
set_option linter.all false
/-! the mathematics of machines: steps, runs, one machine behind another -/
namespace FX
abbrev Rows := List (List (Nat × List Nat))
/-- the rows of a machine on the letters zs -/
structure MachOk (zs : List Nat) (R : Rows) : Prop where
  pos : 1 ≤ R.length
  rows : ∀ row ∈ R, row.length = zs.length
  st : ∀ row ∈ R, ∀ t ∈ row, t.1 < R.length
  one : ∀ row ∈ R, ∀ t ∈ row, t.2.length ≤ 1
  out : ∀ row ∈ R, ∀ t ∈ row, ∀ c ∈ t.2, c ∈ zs
def ix (zs : List Nat) (c : Nat) : Nat := zs.idxOf c
def stp (zs : List Nat) (R : Rows) (s c : Nat) : Nat × List Nat := (R.getD s []).getD (ix zs c) (0, [])
def runM (zs : List Nat) (R : Rows) : Nat → List Nat → Nat × List Nat
  | s, [] => (s, [])
  | s, c :: r => ((runM zs R (stp zs R s c).1 r).1, (stp zs R s c).2 ++ (runM zs R (stp zs R s c).1 r).2)
def madeM (zs : List Nat) (R : Rows) (v : List Nat) : List Nat := (runM zs R 0 v).2

theorem ix_lt {zs : List Nat} {c : Nat} (h : c ∈ zs) : ix zs c < zs.length := List.idxOf_lt_length_of_mem h

theorem stp_mem {zs : List Nat} {R : Rows} (M : MachOk zs R) {s c : Nat} (hs : s < R.length) (hc : c ∈ zs) :
    ∃ row, R[s]? = some row ∧ row[ix zs c]? = some (stp zs R s c) ∧ row ∈ R ∧ stp zs R s c ∈ row := by
  have h1 : R[s] ∈ R := List.getElem_mem hs
  have h2 : ix zs c < R[s].length := by rw [M.rows _ h1]; exact ix_lt hc
  have e1 : R[s]? = some R[s] := List.getElem?_eq_getElem hs
  have e2 : stp zs R s c = R[s][ix zs c] := by
    unfold stp
    have e3 : R.getD s [] = R[s] := by
      rw [List.getD_eq_getElem?_getD, e1]
      rfl
    rw [e3, List.getD_eq_getElem?_getD, List.getElem?_eq_getElem h2]
    rfl
  exact ⟨R[s], e1, by rw [e2]; exact List.getElem?_eq_getElem h2, h1, by rw [e2]; exact List.getElem_mem h2⟩
theorem stp_lt {zs : List Nat} {R : Rows} (M : MachOk zs R) {s c : Nat} (hs : s < R.length) (hc : c ∈ zs) : (stp zs R s c).1 < R.length := by
  obtain ⟨row, _, _, h1, h2⟩ := stp_mem M hs hc
  exact M.st row h1 _ h2
theorem stp_one {zs : List Nat} {R : Rows} (M : MachOk zs R) {s c : Nat} (hs : s < R.length) (hc : c ∈ zs) : (stp zs R s c).2.length ≤ 1 := by
  obtain ⟨row, _, _, h1, h2⟩ := stp_mem M hs hc
  exact M.one row h1 _ h2
theorem stp_out {zs : List Nat} {R : Rows} (M : MachOk zs R) {s c : Nat} (hs : s < R.length) (hc : c ∈ zs) : ∀ d ∈ (stp zs R s c).2, d ∈ zs := by
  obtain ⟨row, _, _, h1, h2⟩ := stp_mem M hs hc
  exact M.out row h1 _ h2
theorem runM_app (zs : List Nat) (R : Rows) : ∀ (u v : List Nat) (s : Nat), runM zs R s (u ++ v) = ((runM zs R (runM zs R s u).1 v).1, (runM zs R s u).2 ++ (runM zs R (runM zs R s u).1 v).2)
  | [], v, s => by simp [runM]
  | c :: u, v, s => by
    show ((runM zs R _ (u ++ v)).1, _ ++ (runM zs R _ (u ++ v)).2) = _
    rw [runM_app zs R u v]
    simp [runM, List.append_assoc]
theorem runM_lt {zs : List Nat} {R : Rows} (M : MachOk zs R) : ∀ (v : List Nat) (s : Nat), s < R.length → (∀ c ∈ v, c ∈ zs) → (runM zs R s v).1 < R.length
  | [], s, hs, _ => hs
  | c :: v, s, hs, hv => runM_lt M v _ (stp_lt M hs (hv c List.mem_cons_self)) fun d hd => hv d (List.mem_cons_of_mem _ hd)
theorem runM_out {zs : List Nat} {R : Rows} (M : MachOk zs R) : ∀ (v : List Nat) (s : Nat), s < R.length → (∀ c ∈ v, c ∈ zs) → ∀ d ∈ (runM zs R s v).2, d ∈ zs
  | [], s, hs, _, d, hd => nomatch hd
  | c :: v, s, hs, hv, d, hd => by
    have hc := hv c List.mem_cons_self
    rcases List.mem_append.mp hd with h | h
    · exact stp_out M hs hc d h
    · exact runM_out M v _ (stp_lt M hs hc) (fun d hd => hv d (List.mem_cons_of_mem _ hd)) d h
theorem runM_len {zs : List Nat} {R : Rows} (M : MachOk zs R) : ∀ (v : List Nat) (s : Nat), s < R.length → (∀ c ∈ v, c ∈ zs) → (runM zs R s v).2.length ≤ v.length
  | [], s, hs, _ => Nat.le_refl _
  | c :: v, s, hs, hv => by
    have hc := hv c List.mem_cons_self
    have h1 := stp_one M hs hc
    have h2 := runM_len M v _ (stp_lt M hs hc) fun d hd => hv d (List.mem_cons_of_mem _ hd)
    show ((stp zs R s c).2 ++ (runM zs R (stp zs R s c).1 v).2).length ≤ _
    rw [List.length_append, List.length_cons]
    omega

/-- the outs, letter by letter -/
def outL (zs : List Nat) (R : Rows) : Nat → List Nat → List (List Nat)
  | _, [] => []
  | s, c :: r => (stp zs R s c).2 :: outL zs R (stp zs R s c).1 r
theorem outL_flat (zs : List Nat) (R : Rows) : ∀ (v : List Nat) (s : Nat), (outL zs R s v).flatten = (runM zs R s v).2
  | [], s => rfl
  | c :: v, s => by
    show ((stp zs R s c).2 :: outL zs R (stp zs R s c).1 v).flatten = _
    rw [List.flatten_cons, outL_flat zs R v]
    rfl
theorem outL_app (zs : List Nat) (R : Rows) : ∀ (u v : List Nat) (s : Nat), outL zs R s (u ++ v) = outL zs R s u ++ outL zs R (runM zs R s u).1 v
  | [], v, s => rfl
  | c :: u, v, s => by
    show _ :: outL zs R _ (u ++ v) = _
    rw [outL_app zs R u v]
    rfl
theorem outL_len (zs : List Nat) (R : Rows) : ∀ (v : List Nat) (s : Nat), (outL zs R s v).length = v.length
  | [], s => rfl
  | c :: v, s => by
    show (outL zs R _ v).length + 1 = v.length + 1
    rw [outL_len zs R v]
theorem take_succ' {α : Type} {l : List α} {i : Nat} {x : α} (h : l[i]? = some x) : l.take (i + 1) = l.take i ++ [x] := by
  rw [List.take_add_one, h]
  rfl
/-! ### one machine behind which another stands -/
def jt (zs : List Nat) (R1 R2 : Rows) (p : Nat × Nat) (c : Nat) : (Nat × Nat) × List Nat :=
  match (stp zs R1 p.1 c).2 with
  | [] => (((stp zs R1 p.1 c).1, p.2), [])
  | h :: _ => (((stp zs R1 p.1 c).1, (stp zs R2 p.2 h).1), (stp zs R2 p.2 h).2)
abbrev PS := List (Nat × Nat)
def addP (ps : PS) (q : Nat × Nat) : PS := if q ∈ ps then ps else ps ++ [q]
/-- the letters of a row, one after the other -/
def rowS (f : Nat → (Nat × Nat) × List Nat) : List Nat → PS → List (Nat × List Nat) → PS × List (Nat × List Nat)
  | [], ps, row => (ps, row)
  | c :: r, ps, row => rowS f r (addP ps (f c).1) (row ++ [((addP ps (f c).1).idxOf (f c).1, (f c).2)])
abbrev BS := PS × Rows
def turnB (zs : List Nat) (R1 R2 : Rows) (s : BS) : BS :=
  ((rowS (jt zs R1 R2 (s.1.getD s.2.length (0, 0))) zs s.1 []).1, s.2 ++ [(rowS (jt zs R1 R2 (s.1.getD s.2.length (0, 0))) zs s.1 []).2])
def bfs (zs : List Nat) (R1 R2 : Rows) : Nat → BS → BS
  | 0, s => s
  | n + 1, s => if s.2.length < s.1.length then bfs zs R1 R2 n (turnB zs R1 R2 s) else s
theorem bfs_done {zs : List Nat} {R1 R2 : Rows} {s : BS} (h : ¬ s.2.length < s.1.length) : ∀ n, bfs zs R1 R2 n s = s
  | 0 => rfl
  | n + 1 => by unfold bfs; rw [if_neg h]
theorem bfs_step {zs : List Nat} {R1 R2 : Rows} {s : BS} (h : s.2.length < s.1.length) (n : Nat) : bfs zs R1 R2 (n + 1) s = bfs zs R1 R2 n (turnB zs R1 R2 s) := by
  rw [bfs, if_pos h]

theorem addP_mem (ps : PS) (q : Nat × Nat) : q ∈ addP ps q := by
  unfold addP
  split
  · assumption
  · simp
theorem addP_pre (ps : PS) (q : Nat × Nat) : ∃ t, addP ps q = ps ++ t := by
  unfold addP
  split
  · exact ⟨[], by simp⟩
  · exact ⟨[q], rfl⟩
theorem addP_nodup {ps : PS} {q : Nat × Nat} (h : ps.Nodup) : (addP ps q).Nodup := by
  unfold addP
  split
  · exact h
  · rename_i hq
    rw [List.nodup_append]
    refine ⟨h, by simp, ?_⟩
    intro a ha b hb e
    simp at hb
    subst hb
    exact hq (e ▸ ha)
theorem addP_all {ps : PS} {q : Nat × Nat} {P : Nat × Nat → Prop} (h : ∀ x ∈ ps, P x) (hq : P q) : ∀ x ∈ addP ps q, P x := by
  unfold addP
  split
  · exact h
  · intro x hx
    rcases List.mem_append.mp hx with h' | h'
    · exact h x h'
    · simp at h'
      rw [h']
      exact hq
/-- what a row comes to -/
theorem rowS_spec (f : Nat → (Nat × Nat) × List Nat) (P : Nat × Nat → Prop) : ∀ (cs : List Nat) (ps : PS) (row : List (Nat × List Nat)), (∀ c ∈ cs, P (f c).1) → ps.Nodup → (∀ x ∈ ps, P x) →
    (rowS f cs ps row).1.Nodup ∧ (∀ x ∈ (rowS f cs ps row).1, P x) ∧ (∃ t, (rowS f cs ps row).1 = ps ++ t) ∧
    ∃ r, (rowS f cs ps row).2 = row ++ r ∧ r.length = cs.length ∧ ∀ (i c : Nat), cs[i]? = some c → ∃ j : Nat, r[i]? = some (j, (f c).2) ∧ (rowS f cs ps row).1[j]? = some (f c).1
  | [], ps, row, _, h1, h2 => ⟨h1, h2, ⟨[], by simp [rowS]⟩, [], by simp [rowS], rfl, fun i c h => by simp at h⟩
  | c :: cs, ps, row, hf, h1, h2 => by
    have hc := hf c List.mem_cons_self
    obtain ⟨k1, k2, ⟨t, ht⟩, r, hr, hl, hi⟩ := rowS_spec f P cs (addP ps (f c).1) (row ++ [((addP ps (f c).1).idxOf (f c).1, (f c).2)]) (fun d hd => hf d (List.mem_cons_of_mem _ hd)) (addP_nodup h1) (addP_all h2 hc)
    obtain ⟨t0, ht0⟩ := addP_pre ps (f c).1
    refine ⟨k1, k2, ⟨t0 ++ t, ?_⟩, ((addP ps (f c).1).idxOf (f c).1, (f c).2) :: r, ?_, by simp [hl], fun i d hd => ?_⟩
    · show (rowS f cs _ _).1 = _
      rw [ht, ht0, List.append_assoc]
    · show (rowS f cs _ _).2 = _
      rw [hr, List.append_assoc]
      rfl
    · cases i with
      | zero =>
        simp at hd
        subst hd
        refine ⟨_, rfl, ?_⟩
        show (rowS f cs _ _).1[_]? = _
        have hm := addP_mem ps (f c).1
        have hlt := List.idxOf_lt_length_of_mem hm
        rw [ht, List.getElem?_append_left hlt, List.getElem?_eq_getElem hlt]
        simp
      | succ i =>
        simp at hd
        obtain ⟨j, h3, h4⟩ := hi i d hd
        exact ⟨j, by simpa using h3, h4⟩

/-- what holds of the pairs and rows between two turns -/
structure BInv (zs : List Nat) (R1 R2 : Rows) (s : BS) : Prop where
  nd : s.1.Nodup
  bd : ∀ p ∈ s.1, p.1 < R1.length ∧ p.2 < R2.length
  z : s.1[0]? = some (0, 0)
  le : s.2.length ≤ s.1.length
  row : ∀ row ∈ s.2, row.length = zs.length
  done : ∀ (i : Nat) (row : List (Nat × List Nat)) (p : Nat × Nat), s.2[i]? = some row → s.1[i]? = some p → ∀ (k c : Nat), zs[k]? = some c → ∃ j : Nat, row[k]? = some (j, (jt zs R1 R2 p c).2) ∧ s.1[j]? = some (jt zs R1 R2 p c).1
theorem jt_bd {zs : List Nat} {R1 R2 : Rows} (M1 : MachOk zs R1) (M2 : MachOk zs R2) {p : Nat × Nat} {c : Nat} (hp : p.1 < R1.length ∧ p.2 < R2.length) (hc : c ∈ zs) :
    ((jt zs R1 R2 p c).1.1 < R1.length ∧ (jt zs R1 R2 p c).1.2 < R2.length) ∧ (jt zs R1 R2 p c).2.length ≤ 1 ∧ ∀ d ∈ (jt zs R1 R2 p c).2, d ∈ zs := by
  have h1 := stp_lt M1 hp.1 hc
  have h2 := stp_out M1 hp.1 hc
  unfold jt
  split
  · exact ⟨⟨h1, hp.2⟩, by simp, fun d hd => nomatch hd⟩
  · rename_i h r e
    have hh : h ∈ zs := h2 h (by rw [e]; exact List.mem_cons_self)
    exact ⟨⟨h1, stp_lt M2 hp.2 hh⟩, stp_one M2 hp.2 hh, stp_out M2 hp.2 hh⟩
theorem BInv.init {zs : List Nat} {R1 R2 : Rows} (h1 : 1 ≤ R1.length) (h2 : 1 ≤ R2.length) : BInv zs R1 R2 ([(0, 0)], []) where
  nd := by simp
  bd := fun p hp => by simp at hp; subst hp; exact ⟨h1, h2⟩
  z := rfl
  le := Nat.zero_le _
  row := fun row h => nomatch h
  done := fun i row p h => by simp at h
theorem BInv.turn {zs : List Nat} {R1 R2 : Rows} (M1 : MachOk zs R1) (M2 : MachOk zs R2) {s : BS} (B : BInv zs R1 R2 s) (h : s.2.length < s.1.length) : BInv zs R1 R2 (turnB zs R1 R2 s) := by
  have hp : s.1[s.2.length]? = some (s.1.getD s.2.length (0, 0)) := by
    rw [List.getD_eq_getElem?_getD, List.getElem?_eq_getElem h]
    rfl
  have hpm : s.1.getD s.2.length (0, 0) ∈ s.1 := List.mem_of_getElem? hp
  have hb := B.bd _ hpm
  obtain ⟨k1, k2, ⟨t, ht⟩, r, hr, hl, hi⟩ := rowS_spec (jt zs R1 R2 (s.1.getD s.2.length (0, 0))) (fun p => p.1 < R1.length ∧ p.2 < R2.length) zs s.1 [] (fun c hc => (jt_bd M1 M2 hb hc).1) B.nd B.bd
  have e1 : (turnB zs R1 R2 s).1 = s.1 ++ t := ht
  have e2 : (turnB zs R1 R2 s).2 = s.2 ++ [r] := by
    show s.2 ++ [_] = _
    rw [hr]
    rfl
  have up : ∀ i p, s.1[i]? = some p → (turnB zs R1 R2 s).1[i]? = some p := fun i p hi => by
    rw [e1, List.getElem?_append_left (List.getElem?_eq_some_iff.mp hi).1]
    exact hi
  refine ⟨k1, k2, up _ _ B.z, ?_, fun row hrow => ?_, fun i row p hrow hp' k c hk => ?_⟩
  · rw [e2, e1, List.length_append, List.length_append]
    simp
    omega
  · rw [e2] at hrow
    rcases List.mem_append.mp hrow with q | q
    · exact B.row row q
    · simp at q
      rw [q]
      exact hl
  · rw [e2] at hrow
    by_cases hlt : i < s.2.length
    · rw [List.getElem?_append_left hlt] at hrow
      have hlt' : i < s.1.length := by omega
      have hp2 : s.1[i]? = some p := by
        rw [e1, List.getElem?_append_left hlt'] at hp'
        exact hp'
      obtain ⟨j, h3, h4⟩ := B.done i row p hrow hp2 k c hk
      exact ⟨j, h3, up _ _ h4⟩
    · have hi' : i = s.2.length := by
        have q := (List.getElem?_eq_some_iff.mp hrow).1
        rw [List.length_append] at q
        simp at q
        omega
      subst hi'
      rw [List.getElem?_append_right (Nat.le_refl _)] at hrow
      simp at hrow
      subst hrow
      have ep : p = s.1.getD s.2.length (0, 0) := Option.some.inj (hp'.symm.trans (up _ _ hp))
      subst ep
      obtain ⟨j, h3, h4⟩ := hi k c hk
      exact ⟨j, h3, h4⟩
theorem nodup_sub_len : ∀ {l m : List Nat}, l.Nodup → l ⊆ m → l.length ≤ m.length
  | [], m, _, _ => Nat.zero_le _
  | a :: l, m, hn, hs => by
    have ha : a ∈ m := hs List.mem_cons_self
    have hn' := List.nodup_cons.mp hn
    have h1 : l ⊆ m.erase a := fun x hx => by
      have hxa : x ≠ a := fun e => hn'.1 (e ▸ hx)
      exact (List.mem_erase_of_ne hxa).mpr (hs (List.mem_cons_of_mem _ hx))
    have h2 := nodup_sub_len hn'.2 h1
    rw [List.length_erase_of_mem ha] at h2
    have h3 : 0 < m.length := List.length_pos_of_mem ha
    rw [List.length_cons]
    omega
/-- pairs below bounds, none twice: at most so many -/
theorem nodup_le : ∀ (l : List (Nat × Nat)) (m n : Nat), l.Nodup → (∀ p ∈ l, p.1 < m ∧ p.2 < n) → l.length ≤ m * n := by
  intro l m n hn hb
  have h2 : (l.map fun p => p.1 * n + p.2).Nodup := by
    rw [List.nodup_iff_pairwise_ne] at hn
    show List.Pairwise _ _
    rw [List.pairwise_map]
    refine List.Pairwise.imp_of_mem (fun {a b} ha hb' hab e => hab ?_) hn
    have h3 := (hb a ha).2
    have h4 := (hb b hb').2
    have e1 : a.1 = b.1 := by
      have q1 : (a.1 * n + a.2) / n = a.1 := by
        rw [Nat.mul_comm, Nat.mul_add_div (by omega), Nat.div_eq_of_lt h3, Nat.add_zero]
      have q2 : (b.1 * n + b.2) / n = b.1 := by
        rw [Nat.mul_comm, Nat.mul_add_div (by omega), Nat.div_eq_of_lt h4, Nat.add_zero]
      rw [← q1, ← q2, e]
    have e2 : a.2 = b.2 := by rw [e1] at e; omega
    exact Prod.ext e1 e2
  have h3 : (l.map fun p => p.1 * n + p.2) ⊆ List.range (m * n) := by
    intro x hx
    obtain ⟨p, hp, rfl⟩ := List.mem_map.mp hx
    obtain ⟨h4, h5⟩ := hb p hp
    rw [List.mem_range]
    calc p.1 * n + p.2 < p.1 * n + n := by omega
      _ = (p.1 + 1) * n := by rw [Nat.add_mul, Nat.one_mul]
      _ ≤ m * n := Nat.mul_le_mul_right _ h4
  have h4 := nodup_sub_len h2 h3
  rw [List.length_map, List.length_range] at h4
  exact h4
end FX
set_option linter.all false
/-! the ready machines -/
namespace FX
def copyRow (zs : List Nat) (s : Nat) : List (Nat × List Nat) := zs.map fun c => (s, [c])
def plainR (zs : List Nat) : Rows := [copyRow zs 0]
def cutR (zs : List Nat) (n : Nat) : Rows := ((List.range n).map fun s => copyRow zs (s + 1)) ++ [List.replicate zs.length (n, [])]
def stripR (zs some : List Nat) : Rows := [zs.map fun c => if c ∈ some then (0, []) else (1, [c]), copyRow zs 1]
def turnsR (zs silent : List Nat) : List (Nat × List Nat) := (List.range zs.length).map fun i => (i + 1, if [zs.getD i 0] = silent then [] else [zs.getD i 0])
def squeezeR (zs some : List Nat) : Rows := turnsR zs [] :: zs.map fun l => turnsR zs (if l ∈ some then [l] else [])
theorem copyRow_mem {zs : List Nat} {s : Nat} {t : Nat × List Nat} (h : t ∈ copyRow zs s) : t.1 = s ∧ t.2.length ≤ 1 ∧ ∀ c ∈ t.2, c ∈ zs := by
  obtain ⟨c, hc, rfl⟩ := List.mem_map.mp h
  exact ⟨rfl, by simp, fun d hd => by simp at hd; rw [hd]; exact hc⟩
theorem turnsR_mem {zs silent : List Nat} {t : Nat × List Nat} (h : t ∈ turnsR zs silent) : t.1 ≤ zs.length ∧ t.2.length ≤ 1 ∧ ∀ c ∈ t.2, c ∈ zs := by
  obtain ⟨i, hi, rfl⟩ := List.mem_map.mp h
  have hi' := List.mem_range.mp hi
  refine ⟨hi', ?_, ?_⟩
  · show (if _ then _ else _ : List Nat).length ≤ 1
    split <;> simp
  · intro d hd
    replace hd : d ∈ (if [zs.getD i 0] = silent then [] else [zs.getD i 0]) := hd
    split at hd
    · cases hd
    · simp at hd
      rw [hd]
      rw [List.getElem?_eq_getElem hi']
      exact List.getElem_mem hi'
theorem plain_ok (zs : List Nat) : MachOk zs (plainR zs) where
  pos := Nat.le_refl _
  rows := fun row h => by simp [plainR] at h; subst h; simp [copyRow]
  st := fun row h t ht => by simp [plainR] at h; subst h; rw [(copyRow_mem ht).1]; exact Nat.zero_lt_one
  one := fun row h t ht => by simp [plainR] at h; subst h; exact (copyRow_mem ht).2.1
  out := fun row h t ht => by simp [plainR] at h; subst h; exact (copyRow_mem ht).2.2
theorem cut_len (zs : List Nat) (n : Nat) : (cutR zs n).length = n + 1 := by simp [cutR]
theorem cut_mem {zs : List Nat} {n : Nat} {row : List (Nat × List Nat)} (h : row ∈ cutR zs n) : (∃ s, s < n ∧ row = copyRow zs (s + 1)) ∨ row = List.replicate zs.length (n, []) := by
  rcases List.mem_append.mp h with h | h
  · obtain ⟨s, hs, rfl⟩ := List.mem_map.mp h
    exact .inl ⟨s, List.mem_range.mp hs, rfl⟩
  · simp at h
    exact .inr h
theorem cut_ok (zs : List Nat) (n : Nat) : MachOk zs (cutR zs n) where
  pos := by rw [cut_len]; omega
  rows := fun row h => by
    rcases cut_mem h with ⟨s, _, rfl⟩ | rfl
    · simp [copyRow]
    · simp
  st := fun row h t ht => by
    rw [cut_len]
    rcases cut_mem h with ⟨s, hs, rfl⟩ | rfl
    · rw [(copyRow_mem ht).1]; omega
    · rw [(List.mem_replicate.mp ht).2]; exact Nat.lt_succ_self n
  one := fun row h t ht => by
    rcases cut_mem h with ⟨s, hs, rfl⟩ | rfl
    · exact (copyRow_mem ht).2.1
    · rw [(List.mem_replicate.mp ht).2]; exact Nat.zero_le _
  out := fun row h t ht => by
    rcases cut_mem h with ⟨s, hs, rfl⟩ | rfl
    · exact (copyRow_mem ht).2.2
    · rw [(List.mem_replicate.mp ht).2]; exact fun c hc => nomatch hc
theorem strip_ok (zs some : List Nat) : MachOk zs (stripR zs some) := by
  have h0 : ∀ t ∈ (zs.map fun c => if c ∈ some then ((0, []) : Nat × List Nat) else (1, [c])), t.1 < 2 ∧ t.2.length ≤ 1 ∧ ∀ c ∈ t.2, c ∈ zs := by
    intro t ht
    obtain ⟨c, hc, rfl⟩ := List.mem_map.mp ht
    split
    · exact ⟨by decide, by simp, fun d hd => nomatch hd⟩
    · exact ⟨Nat.lt_succ_self 1, by simp, fun d hd => by simp at hd; rw [hd]; exact hc⟩
  have h1 : ∀ t ∈ copyRow zs 1, t.1 < 2 ∧ t.2.length ≤ 1 ∧ ∀ c ∈ t.2, c ∈ zs := fun t ht => by
    have := copyRow_mem ht
    exact ⟨by rw [this.1]; decide, this.2⟩
  have hall : ∀ row ∈ stripR zs some, row.length = zs.length ∧ ∀ t ∈ row, t.1 < 2 ∧ t.2.length ≤ 1 ∧ ∀ c ∈ t.2, c ∈ zs := by
    intro row h
    simp only [stripR, List.mem_cons, List.mem_nil_iff, or_false] at h
    rcases h with rfl | rfl
    · exact ⟨by simp, h0⟩
    · exact ⟨by simp [copyRow], h1⟩
  exact ⟨by simp [stripR], fun row h => (hall row h).1, fun row h t ht => ((hall row h).2 t ht).1, fun row h t ht => ((hall row h).2 t ht).2.1, fun row h t ht => ((hall row h).2 t ht).2.2⟩
theorem squeeze_len (zs some : List Nat) : (squeezeR zs some).length = zs.length + 1 := by simp [squeezeR]
theorem squeeze_ok (zs some : List Nat) : MachOk zs (squeezeR zs some) := by
  have hall : ∀ row ∈ squeezeR zs some, ∃ sl, row = turnsR zs sl := by
    intro row h
    rcases List.mem_cons.mp h with rfl | h
    · exact ⟨_, rfl⟩
    · obtain ⟨l, _, rfl⟩ := List.mem_map.mp h
      exact ⟨_, rfl⟩
  refine ⟨by rw [squeeze_len]; omega, fun row h => ?_, fun row h t ht => ?_, fun row h t ht => ?_, fun row h t ht => ?_⟩
  · obtain ⟨sl, rfl⟩ := hall row h
    simp [turnsR]
  · obtain ⟨sl, rfl⟩ := hall row h
    rw [squeeze_len]
    have := (turnsR_mem ht).1
    omega
  · obtain ⟨sl, rfl⟩ := hall row h
    exact (turnsR_mem ht).2.1
  · obtain ⟨sl, rfl⟩ := hall row h
    exact (turnsR_mem ht).2.2
end FX
set_option linter.all false
namespace FX
theorem rowS_app (f : Nat → (Nat × Nat) × List Nat) (c : Nat) : ∀ (cs : List Nat) (ps : PS) (row : List (Nat × List Nat)), rowS f (cs ++ [c]) ps row =
    (addP (rowS f cs ps row).1 (f c).1, (rowS f cs ps row).2 ++ [((addP (rowS f cs ps row).1 (f c).1).idxOf (f c).1, (f c).2)])
  | [], ps, row => rfl
  | d :: cs, ps, row => rowS_app f c cs _ _
theorem BInv.ok {zs : List Nat} {R1 R2 : Rows} {s : BS} (M1 : MachOk zs R1) (M2 : MachOk zs R2) (B : BInv zs R1 R2 s) (h : ¬ s.2.length < s.1.length) : MachOk zs s.2 := by
  have hl : s.1.length = s.2.length := by have := B.le; omega
  have at_ : ∀ row ∈ s.2, ∀ t ∈ row, ∃ (p : Nat × Nat) (c : Nat), c ∈ zs ∧ p ∈ s.1 ∧ t.1 < s.2.length ∧ t.2 = (jt zs R1 R2 p c).2 := by
    intro row hr t ht
    obtain ⟨i, hi⟩ := List.getElem?_of_mem hr
    obtain ⟨k, hk⟩ := List.getElem?_of_mem ht
    have hil := (List.getElem?_eq_some_iff.mp hi).1
    have hkl := (List.getElem?_eq_some_iff.mp hk).1
    rw [B.row row hr] at hkl
    obtain ⟨j, h1, h2⟩ := B.done i row s.1[i] hi (List.getElem?_eq_getElem (by omega)) k zs[k] (List.getElem?_eq_getElem hkl)
    rw [hk] at h1
    have e := Option.some.inj h1
    refine ⟨s.1[i], zs[k], List.getElem_mem hkl, List.getElem_mem _, ?_, by rw [e]⟩
    rw [e]
    have := (List.getElem?_eq_some_iff.mp h2).1
    show j < _
    omega
  refine ⟨?_, B.row, fun row hr t ht => ?_, fun row hr t ht => ?_, fun row hr t ht => ?_⟩
  · have := (List.getElem?_eq_some_iff.mp B.z).1
    omega
  · obtain ⟨p, c, _, _, h1, _⟩ := at_ row hr t ht
    exact h1
  · obtain ⟨p, c, hc, hp, _, h2⟩ := at_ row hr t ht
    rw [h2]
    exact (jt_bd M1 M2 (B.bd p hp) hc).2.1
  · obtain ⟨p, c, hc, hp, _, h2⟩ := at_ row hr t ht
    rw [h2]
    exact (jt_bd M1 M2 (B.bd p hp) hc).2.2
theorem BInv.stp {zs : List Nat} {R1 R2 : Rows} {s : BS} (B : BInv zs R1 R2 s) (h : ¬ s.2.length < s.1.length) {i : Nat} {p : Nat × Nat} (hp : s.1[i]? = some p) {c : Nat} (hc : c ∈ zs) :
    (stp zs s.2 i c).2 = (jt zs R1 R2 p c).2 ∧ s.1[(stp zs s.2 i c).1]? = some (jt zs R1 R2 p c).1 := by
  have hil := (List.getElem?_eq_some_iff.mp hp).1
  have hl : i < s.2.length := by omega
  have hk : zs[ix zs c]? = some c := by
    have h1 := ix_lt hc
    rw [List.getElem?_eq_getElem h1]
    simp [ix]
  obtain ⟨j, h1, h2⟩ := B.done i s.2[i] p (List.getElem?_eq_getElem hl) hp _ c hk
  have e : FX.stp zs s.2 i c = (j, (jt zs R1 R2 p c).2) := by
    unfold FX.stp
    have e3 : s.2.getD i [] = s.2[i] := by
      rw [List.getD_eq_getElem?_getD, List.getElem?_eq_getElem hl]
      rfl
    rw [e3, List.getD_eq_getElem?_getD, h1]
    rfl
  rw [e]
  exact ⟨rfl, h2⟩
/-- the machine of both makes what the one makes and then the other -/
theorem BInv.sim {zs : List Nat} {R1 R2 : Rows} {s : BS} (M1 : MachOk zs R1) (M2 : MachOk zs R2) (B : BInv zs R1 R2 s) (h : ¬ s.2.length < s.1.length) :
    ∀ (v : List Nat) (i : Nat) (p : Nat × Nat), s.1[i]? = some p → (∀ c ∈ v, c ∈ zs) → (runM zs s.2 i v).2 = (runM zs R2 p.2 (runM zs R1 p.1 v).2).2
  | [], i, p, _, _ => rfl
  | c :: v, i, p, hp, hv => by
    have hc := hv c List.mem_cons_self
    obtain ⟨h1, h2⟩ := B.stp h hp hc
    have ih := BInv.sim M1 M2 B h v _ _ h2 fun d hd => hv d (List.mem_cons_of_mem _ hd)
    show (FX.stp zs s.2 i c).2 ++ (runM zs s.2 (FX.stp zs s.2 i c).1 v).2 = (runM zs R2 p.2 ((FX.stp zs R1 p.1 c).2 ++ (runM zs R1 (FX.stp zs R1 p.1 c).1 v).2)).2
    rw [ih, h1, runM_app]
    have hbp := B.bd p (List.mem_of_getElem? hp)
    have hone := stp_one M1 hbp.1 hc
    unfold jt
    cases e : (FX.stp zs R1 p.1 c).2 with
    | nil => simp [runM]
    | cons d r =>
      have er : r = [] := by
        rw [e] at hone
        cases r with
        | nil => rfl
        | cons _ _ => simp at hone
      subst er
      simp [runM]
def bfsR (zs : List Nat) (R1 R2 : Rows) : BS := bfs zs R1 R2 36 ([(0, 0)], [])
/-- the search comes to an end -/
theorem bfs_end {zs : List Nat} {R1 R2 : Rows} (M1 : MachOk zs R1) (M2 : MachOk zs R2) (b : R1.length * R2.length ≤ 36) : ∀ (n : Nat) (s : BS), BInv zs R1 R2 s → s.2.length + n = 36 →
    BInv zs R1 R2 (bfs zs R1 R2 n s) ∧ ¬ (bfs zs R1 R2 n s).2.length < (bfs zs R1 R2 n s).1.length
  | 0, s, B, hn => by
    have := nodup_le _ _ _ B.nd B.bd
    exact ⟨B, by show ¬ s.2.length < s.1.length; omega⟩
  | n + 1, s, B, hn => by
    by_cases h : s.2.length < s.1.length
    · rw [bfs_step h]
      refine bfs_end M1 M2 b n _ (B.turn M1 M2 h) ?_
      show (s.2 ++ [_]).length + n = 36
      rw [List.length_append, List.length_singleton]
      omega
    · rw [bfs_done h]
      exact ⟨B, h⟩
theorem bfsR_inv {zs : List Nat} {R1 R2 : Rows} (M1 : MachOk zs R1) (M2 : MachOk zs R2) (b : R1.length * R2.length ≤ 36) : BInv zs R1 R2 (bfsR zs R1 R2) ∧ ¬ (bfsR zs R1 R2).2.length < (bfsR zs R1 R2).1.length :=
  bfs_end M1 M2 b 36 _ (BInv.init M1.pos M2.pos) rfl
theorem bfsR_made {zs : List Nat} {R1 R2 : Rows} (M1 : MachOk zs R1) (M2 : MachOk zs R2) (b : R1.length * R2.length ≤ 36) {v : List Nat} (hv : ∀ c ∈ v, c ∈ zs) : madeM zs (bfsR zs R1 R2).2 v = madeM zs R2 (madeM zs R1 v) := by
  obtain ⟨B, h⟩ := bfsR_inv M1 M2 b
  exact B.sim M1 M2 h v 0 (0, 0) B.z hv
theorem bfsR_le {zs : List Nat} {R1 R2 : Rows} (M1 : MachOk zs R1) (M2 : MachOk zs R2) (b : R1.length * R2.length ≤ 36) : (bfsR zs R1 R2).2.length ≤ R1.length * R2.length := by
  obtain ⟨B, h⟩ := bfsR_inv M1 M2 b
  have := nodup_le _ _ _ B.nd B.bd
  have := B.le
  omega
theorem stp_plain {zs : List Nat} {c : Nat} (hc : c ∈ zs) : stp zs (plainR zs) 0 c = (0, [c]) := by
  have h1 := ix_lt hc
  have h2 : zs[ix zs c]? = some c := by
    rw [List.getElem?_eq_getElem h1]
    simp [ix]
  show (copyRow zs 0).getD (ix zs c) (0, []) = _
  rw [List.getD_eq_getElem?_getD, copyRow, List.getElem?_map, h2]
  rfl
theorem run_plain {zs : List Nat} : ∀ {v : List Nat}, (∀ c ∈ v, c ∈ zs) → runM zs (plainR zs) 0 v = (0, v)
  | [], _ => rfl
  | c :: v, hv => by
    have hc := hv c List.mem_cons_self
    show ((runM zs _ (stp zs (plainR zs) 0 c).1 v).1, (stp zs (plainR zs) 0 c).2 ++ (runM zs _ (stp zs (plainR zs) 0 c).1 v).2) = _
    rw [stp_plain hc, run_plain fun d hd => hv d (List.mem_cons_of_mem _ hd)]
    rfl
theorem made_plain {zs v : List Nat} (hv : ∀ c ∈ v, c ∈ zs) : madeM zs (plainR zs) v = v := by
  unfold madeM
  rw [run_plain hv]
end FX
set_option Elab.async false
set_option linter.all false
set_option maxRecDepth 100000
set_option maxHeartbeats 4000000
/-! own rules: enumerate over a text and over a tuple -/
namespace FX
open PySem PySem.Spec PyProof.Rows L2
theorem units1 {k : Nat} {A : Around} (r : Room k A) : A.units + 65 < cLine := by have := r.un; omega

set_option maxHeartbeats 1000000 in
theorem meets_enum1 {v : Value} {o : Obj} {H : Heap → Prop} (B : Begins v o H) :
    Meets (Builtin.«enumerate.__new__» ⟨[.type "enumerate", v], []⟩) (fun _ R s => H s.heap ∧
      R (.ok (.ret (.ref (s.heap.push o).objs.size))) { s with heap := (s.heap.push o).push { cls := .type "enumerate", data := .fields #[.none, .bool false, .ref s.heap.objs.size, rawInt 0, .none, .none] } }) :=
  .of_wp fun prog w A R s h => by
    obtain ⟨hp, g, d, tk, os⟩ := s; obtain ⟨h1, h⟩ := h
    have hsub := sub_enumerate
    have q1 : ∀ {A' : Around} {E : Value → Shared → Prop} {Q : Value → Shared → Prop}, Q (.ref hp.objs.size) ⟨hp.push o, g, d, tk, os⟩ → wpAny (model prog w) A' (pyIter v) Q E ⟨hp, g, d, tk, os⟩ :=
      fun q => B.iter prog w _ _ ⟨hp, g, d, tk, os⟩ _ h1 q
    wp_walk using q1
    refine wpAny_stack_any fun st => wpAny_pure ?_
    split
    · rename_i c _ _ _ _ _
      cases (c == Value.type "enumerate")
      · wp_walk using q1
        exact ⟨_, rfl, h⟩
      · wp_walk using q1
        exact ⟨_, rfl, h⟩
    · wp_walk using q1
      exact ⟨_, rfl, h⟩
section
variable {prog : Program} {w : World} {A : Around} {E : Value → Shared → Prop} {s : Shared}
theorem call_enum1 {v : Value} {o : Obj} {H : Heap → Prop} {Q : Value → Shared → Prop} (B : Begins v o H) (h1 : H s.heap)
    (h : ∀ h', IsEnum h' (s.heap.objs.size + 1) s.heap.objs.size 0 .none → h'.get? s.heap.objs.size = some o → h'.objs.size = s.heap.objs.size + 2 →
      (∀ b o, s.heap.get? b = some o → h'.get? b = some o) → Q (.ref (s.heap.objs.size + 1)) { s with heap := h' }) :
    wpAny (model prog w) A (call (.type "enumerate") [v]) Q E s := by
  refine callType_new F.called_enumerate (by decide) (F.typeCall_enumerate_1 _) (F.newCall_enumerate_1 _) (fun obj => F.args_object_init_2 obj _) F.entry_enumerate_new
    (meets_enum1 B) ⟨h1, ?_⟩
  have hz : (s.heap.push o).objs.size = s.heap.objs.size + 1 := Heap.size_push ..
  show _ ∧ _
  rw [hz]
  have he : IsEnum ((s.heap.push o).push { cls := .type "enumerate", data := .fields #[.none, .bool false, .ref s.heap.objs.size, rawInt 0, .none, .none] }) (s.heap.objs.size + 1) s.heap.objs.size 0 .none := by
    have := Heap.get?_push_size (s.heap.push o) (o := { cls := .type "enumerate", data := .fields #[.none, .bool false, .ref s.heap.objs.size, rawInt 0, .none, .none] }) rfl
    rw [hz] at this; exact this
  refine ⟨⟨_, he, rfl⟩, h _ he (Heap.get?_push_of_some _ (Heap.get?_push_size _ B.free)) (by rw [Heap.size_push, hz]) fun b o x => Heap.get?_push_of_some _ (Heap.get?_push_of_some _ x)⟩
end

/-! ### enumerate(text) -/
def Ites (x : Str) : It :=
  ⟨fun i _ => i < x.cps.size, fun i H v H' => ∃ T c, v = .ref T ∧ H T = none ∧ H' = upd H T (.tup [.int (i : Nat), .str ⟨#[c]⟩]) ∧ x.cps[i]? = some c, fun i _ => x.cps.size ≤ i⟩
theorem turn_enumS {P : Program} {w : World} {K : PySem.W.Frag} {elts : List Expr} {kk : Nat} {tpos : Pos} (e it : Addr) (x : Str) (t : Tok) :
    Turn P w K (.Tuple elts kk tpos) (Ites x) [e, it] e (fun i h => (∃ old, IsEnum h e it ((i : Nat) : Int) old) ∧ h.IsStrIter it (strIterType x) x t i ∧ e ≠ it) where
  mem := by simp
  obj := fun i h st b hb => by
    obtain ⟨⟨old, he⟩, ⟨o, ho, hc, hd⟩, _⟩ := st
    have e' : b = e ∨ b = it := by simpa using hb
    rcases e' with z | z
    · rw [z]; exact ⟨_, he, fun v q => nomatch q⟩
    · rw [z]; exact ⟨o, ho, fun v q => by rw [hd] at q; cases q⟩
  keep := fun i h h' st k => let ⟨⟨old, he⟩, ⟨o, ho, r⟩, hne⟩ := st; ⟨⟨old, k e (by simp) _ he⟩, ⟨o, k it (by simp) o ho, r⟩, hne⟩
  item := by
    intro X hP hw hK hc i pins s σ H E I hf st hg
    subst hP hw hK
    obtain ⟨⟨old, he⟩, hit, hne⟩ := st
    have hel : e < s.heap.objs.size := Heap.lt_size he
    have hil : it < s.heap.objs.size := by obtain ⟨_, q, _⟩ := hit; exact Heap.lt_size q
    have D := Draws.text (prog := X.prog) (w := X.w) (A := X.A.in1) (I.ok.hd hc) it x t
    refine wpAny_pyNext_enum_itemD D he hit hg hne (by simp [hne]) fun u h' tk hP ho hit' hT hsz hk => ?_
    obtain ⟨c, u', hcx, rfl⟩ := hP
    refine ⟨_, rfl, wpAny_letOwnedTupleGo_enum (s := { s with heap := h', toks := tk + 1 }) ho fun h'' he' sb => ?_⟩
    have hT2 : h''.get? s.heap.objs.size = some { cls := .type "tuple", data := .seq #[.int i tk, .str ⟨#[c]⟩ u'] } := (sb.2 _ (Nat.ne_of_gt hel)).trans hT
    have new : ObjOk X.prog X.w (upd H s.heap.objs.size (.tup [.int (i : Nat), .str ⟨#[c]⟩])) h'' s.heap.objs.size (.tup [.int (i : Nat), .str ⟨#[c]⟩]) :=
      ⟨by show 2 ≤ sizeLine; decide, [.int i tk, .str ⟨#[c]⟩ u'], .cons ⟨_, rfl⟩ (.cons ⟨_, rfl⟩ .nil), ⟨_, hT2, rfl, _, rfl⟩⟩
    have I1 : Inv X pins σ (upd H s.heap.objs.size (.tup [.int (i : Nat), .str ⟨#[c]⟩])) { s with heap := h'', toks := tk + 1 } :=
      I.turnedNew (ch := [e, it]) (fun b ob hb q => (sb.2 b (fun z => hb (by simp [z]))).trans (hk b ob (fun z => hb (by simp [z])) (fun z => hb (by simp [z])) q)) hf (Nat.le_refl _) new
    obtain ⟨oi, q1, q2, q3⟩ := hit'
    refine ⟨.ref s.heap.objs.size, _, I1, rfl, ⟨_, c, rfl, I.hok.fresh (Nat.le_refl _), rfl, hcx⟩, ⟨⟨.str ⟨#[c]⟩ u', ?_⟩, ⟨oi, (sb.2 it (Ne.symm hne)).trans q1, q2, q3⟩, hne⟩, fun b hb => ?_⟩
    · have e1 : ((i + 1 : Nat) : Int) = (i : Int) + 1 := by omega
      rw [e1]; exact he'
    · have hb' : b < s.heap.objs.size := by
        have e' : b = e ∨ b = it := by simpa using hb
        rcases e' with z | z
        · rw [z]; exact hel
        · rw [z]; exact hil
      rw [upd_ne (Nat.ne_of_lt hb')]
      exact (hf b hb).1
  done := by
    intro X hP hw hK hc i pins s σ H E I hf st hg
    subst hP hw hK
    obtain ⟨⟨old, he⟩, hit, hne⟩ := st
    obtain ⟨f0, f1, f2, f3, f4, f5⟩ := hf it (by simp)
    have hx : x.cps[i]? = none := Array.getElem?_eq_none hg
    have D : Draws X.prog X.w X.A.in1 it [it] i (fun _ _ => False) (fun j h => j = i ∧ h.IsStrIter it (strIterType x) x t i) := by
      refine ⟨fun j h st => let ⟨_, o, ho, _⟩ := st; ⟨o, ho⟩, fun j h h' st k => let ⟨e, o, ho, r⟩ := st; ⟨e, o, k it (by simp) o ho, r⟩, fun j s Q E hj st => absurd st.1 (Nat.ne_of_lt hj), fun s Q E st hE => ?_⟩
      have hh : X.A.in1.handled = none := I.ok.hd hc
      have st' := st.2
      unfold strIterType at st'
      cases ha : x.cps.all (· < 128)
      · rw [ha] at st'
        exact wpAny_nextOf_wide_end hh st' hx hE
      · rw [ha] at st'
        exact wpAny_nextOf_ascii_end hh st' hx hE
    exact wpAny_pyNext_enum_endD D he ⟨rfl, hit⟩ fun h' eb => ⟨rfl, I.turned (t' := s.toks) (fun b o hb q => eb b o hb q) f0 f1 f3 f4 f5⟩
  self := fun A i s Q E st h => let ⟨⟨_, he⟩, _⟩ := st; wpAny_pyIter_enum he h
def iEnumS (ta : TA) : TI := fun σ H R => ta σ H fun vs H1 => ∃ x, vs = [.str x] ∧ R (Ites x) H1
theorem pi_enumS {X : Cx} {e : Expr} {ta : TA} {p pos tpos : Pos} {elts : List Expr} {kk : Nat} (hg : Gl X "enumerate") (hm : X.mg "enumerate" = none) (ha : PA X [e] ta) (hs : starEach [e] X.env = [(false, eval e X.env)] := by rfl) :
    PI X (.Tuple elts kk tpos) (.Call (.Name "enumerate" p) [e] [] pos) (iEnumS ta) := by
  refine ⟨fun pins s σ H R I h => ?_⟩
  refine Call_ (ld_blt I hg hm boot_enumerate (PyProof.Rows.callWith_type1 (thn (ha.run pos pins s σ H _ I h) fun us s1 ⟨vs, H1, I1, r1, q1⟩ => ?_) hs rfl))
  obtain ⟨x, ex, q⟩ := q1
  subst ex
  cases r1 with
  | cons r rr =>
    cases rr
    obtain ⟨t, rfl⟩ := r
    refine call_enum1 (begins_text x t) trivial fun h' he hit hsz hk => wpAny_pyIter_enum he ?_
    have I2 : Inv X pins σ H1 { s1 with heap := h' } := I1.kept (t' := s1.toks) hk
    refine ⟨s1.heap.objs.size + 1, [s1.heap.objs.size + 1, s1.heap.objs.size], _, _, H1, rfl, I2, turn_enumS (s1.heap.objs.size + 1) s1.heap.objs.size x t, ⟨⟨.none, he⟩, ⟨_, hit, rfl, rfl⟩, Nat.succ_ne_self _⟩, fun b hb => ?_, q⟩
    have e' : b = s1.heap.objs.size + 1 ∨ b = s1.heap.objs.size := by simpa using hb
    have hle : s1.heap.objs.size ≤ b := by
      rcases e' with z | z
      · rw [z]; exact Nat.le_add_right _ _
      · rw [z]; exact Nat.le_refl _
    exact I1.fpOk hle (I1.hok.fresh hle)
theorem walk_enumS {z : Str} : Walk (Ites z) z.cps.size (fun _ => True) (fun i H v H' => ∃ T c, v = .ref T ∧ H T = none ∧ H' = upd H T (.tup [.int (i : Nat), .str ⟨#[c]⟩]) ∧ z.cps[i]? = some c) :=
  ⟨fun _ _ hi _ => hi, fun _ _ => Nat.le_refl _, fun _ _ _ _ _ _ y => y⟩

/-! ### enumerate(tuple) -/
def Itet (K : PySem.W.Frag) (a : Addr) : It :=
  ⟨fun i H => ∃ (xs : List V) (x : V), SqT K H a xs ∧ xs[i]? = some x, fun i H v H' => ∃ T x, v = .ref T ∧ H T = none ∧ H' = upd H T (.tup [.int (i : Nat), x]) ∧ ∀ xs, SqT K H a xs → xs[i]? = some x, fun i H => ∃ xs : List V, SqT K H a xs ∧ xs.length ≤ i⟩
theorem turn_enumT {P : Program} {w : World} {K : PySem.W.Frag} {elts : List Expr} {kk : Nat} {tpos : Pos} (a e it : Addr) :
    Turn P w K (.Tuple elts kk tpos) (Itet K a) [e, it] e (fun i h => (∃ old, IsEnum h e it ((i : Nat) : Int) old) ∧ h.IsTupleIter it a i ∧ e ≠ it) where
  mem := by simp
  obj := fun i h st b hb => by
    obtain ⟨⟨old, he⟩, ⟨o, ho, hc, hd⟩, _⟩ := st
    have e' : b = e ∨ b = it := by simpa using hb
    rcases e' with z | z
    · rw [z]; exact ⟨_, he, fun v q => nomatch q⟩
    · rw [z]; exact ⟨o, ho, fun v q => by rw [hd] at q; cases q⟩
  keep := fun i h h' st k => let ⟨⟨old, he⟩, hi, hne⟩ := st; ⟨⟨old, k e (by simp) _ he⟩, hi.at fun o q => k it (by simp) o q, hne⟩
  item := by
    intro X hP hw hK hc i pins s σ H E I hf st hg
    subst hP hw hK
    obtain ⟨⟨old, he⟩, hit, hne⟩ := st
    obtain ⟨xs, x, hq, hx⟩ := hg
    obtain ⟨its, rv, p, hz⟩ := I.tuple hq
    obtain ⟨u, hu, ru⟩ := rv.get hx
    have hel : e < s.heap.objs.size := Heap.lt_size he
    have hil : it < s.heap.objs.size := by obtain ⟨_, q, _⟩ := hit; exact Heap.lt_size q
    have hai : a ≠ it := by
      intro z
      obtain ⟨o1, g1, c1, _⟩ := hit
      obtain ⟨o2, g2, c2, _⟩ := p
      rw [z, g1] at g2
      cases g2
      rw [c1] at c2
      injection c2 with c3
      exact absurd c3 (by decide)
    have D := Draws.tuple (prog := X.prog) (w := X.w) (A := X.A.in1) (I.ok.hd hc) it a hai its.toArray
    have hne' : e ≠ a := by
      intro z
      obtain ⟨o2, g2, c2, _⟩ := p
      have he' : s.heap.get? e = _ := he
      rw [← z, he'] at g2
      cases g2
      injection c2 with c3
      exact absurd c3 (by decide)
    have hlt : i < its.toArray.size := by
      have q := List.getElem?_eq_some_iff.mp hu
      simpa using q.1
    refine wpAny_pyNext_enum_itemD D he ⟨hit, (show s.heap.IsTuple a its.toArray from p)⟩ hlt hne (by simp [hne, hne']) fun x' h' tk hP ho hit' hT hsz hk => ?_
    have ex : x' = u := by
      have q : its.toArray[i]? = some u := by simpa using hu
      exact Option.some.inj (hP.symm.trans q)
    subst ex
    refine ⟨_, rfl, wpAny_letOwnedTupleGo_enum (s := { s with heap := h', toks := tk + 1 }) ho fun h'' he' sb => ?_⟩
    have hT2 : h''.get? s.heap.objs.size = some { cls := .type "tuple", data := .seq #[.int i tk, x'] } := (sb.2 _ (Nat.ne_of_gt hel)).trans hT
    have new : ObjOk X.prog X.w (upd H s.heap.objs.size (.tup [.int (i : Nat), x])) h'' s.heap.objs.size (.tup [.int (i : Nat), x]) :=
      ⟨by show 2 ≤ sizeLine; decide, [.int i tk, x'], .cons ⟨_, rfl⟩ (.cons ru .nil), ⟨_, hT2, rfl, _, rfl⟩⟩
    have I1 : Inv X pins σ (upd H s.heap.objs.size (.tup [.int (i : Nat), x])) { s with heap := h'', toks := tk + 1 } :=
      I.turnedNew (ch := [e, it]) (fun b ob hb q => (sb.2 b (fun z => hb (by simp [z]))).trans (hk b ob (fun z => hb (by simp [z])) (fun z => hb (by simp [z])) q)) hf (Nat.le_refl _) new
    refine ⟨.ref s.heap.objs.size, _, I1, rfl, ⟨_, x, rfl, I.hok.fresh (Nat.le_refl _), rfl, fun ys hy => by rw [I.tuple_inj hy hq]; exact hx⟩, ⟨⟨x', ?_⟩, hit'.1.at fun o q => (sb.2 it (Ne.symm hne)).trans q, hne⟩, fun b hb => ?_⟩
    · have e1 : ((i + 1 : Nat) : Int) = (i : Int) + 1 := by omega
      rw [e1]; exact he'
    · have hb' : b < s.heap.objs.size := by
        have e' : b = e ∨ b = it := by simpa using hb
        rcases e' with z | z
        · rw [z]; exact hel
        · rw [z]; exact hil
      rw [upd_ne (Nat.ne_of_lt hb')]
      exact (hf b hb).1
  done := by
    intro X hP hw hK hc i pins s σ H E I hf st hg
    subst hP hw hK
    obtain ⟨⟨old, he⟩, hit, hne⟩ := st
    obtain ⟨xs, hq, hx⟩ := hg
    obtain ⟨its, rv, p, hz⟩ := I.tuple hq
    obtain ⟨f0, f1, f2, f3, f4, f5⟩ := hf it (by simp)
    have hl := rv.length
    have D : Draws X.prog X.w X.A.in1 it [it, a] i (fun _ _ => False) (fun j h => j = i ∧ h.IsTupleIter it a i ∧ h.IsTuple a its.toArray) := by
      refine ⟨fun j h st => let ⟨_, ⟨o, ho, _⟩, _⟩ := st; ⟨o, ho⟩, fun j h h' st k => ⟨st.1, st.2.1.at fun o e => k it (by simp) o e, st.2.2.at fun o e => k a (by simp) o e⟩, fun j s Q E hj st => absurd st.1 (Nat.ne_of_lt hj), fun s Q E st hE => ?_⟩
      exact wpAny_nextOf_tuple_end (I.ok.hd hc) st.2.1 st.2.2 (by simp; omega) hE
    exact wpAny_pyNext_enum_endD D he ⟨rfl, hit, (show s.heap.IsTuple a its.toArray from p)⟩ fun h' eb => ⟨rfl, I.turned (t' := s.toks) (fun b o hb q => eb b o hb q) f0 f1 f3 f4 f5⟩
  self := fun A i s Q E st h => let ⟨⟨_, he⟩, _⟩ := st; wpAny_pyIter_enum he h
def iEnumT (K : PySem.W.Frag) (ta : TA) : TI := fun σ H R => ta σ H fun vs H1 => ∃ a xs, vs = [.ref a] ∧ SqT K H1 a xs ∧ R (Itet K a) H1
theorem pi_enumT {X : Cx} {e : Expr} {ta : TA} {p pos tpos : Pos} {elts : List Expr} {kk : Nat} (hg : Gl X "enumerate") (hm : X.mg "enumerate" = none) (ha : PA X [e] ta) (hs : starEach [e] X.env = [(false, eval e X.env)] := by rfl) :
    PI X (.Tuple elts kk tpos) (.Call (.Name "enumerate" p) [e] [] pos) (iEnumT X.K ta) := by
  refine ⟨fun pins s σ H R I h => ?_⟩
  refine Call_ (ld_blt I hg hm boot_enumerate (PyProof.Rows.callWith_type1 (thn (ha.run pos pins s σ H _ I h) fun us s1 ⟨vs, H1, I1, r1, q1⟩ => ?_) hs rfl))
  obtain ⟨a, xs, ex, hq, q⟩ := q1
  subst ex
  cases r1 with
  | cons r rr =>
    cases rr
    cases r
    obtain ⟨its, rv, p', hz⟩ := I1.tuple hq
    refine call_enum1 (begins_tuple a its.toArray) (show s1.heap.IsTuple a its.toArray from p') fun h' he hit hsz hk => wpAny_pyIter_enum he ?_
    have I2 : Inv X pins σ H1 { s1 with heap := h' } := I1.kept (t' := s1.toks) hk
    refine ⟨s1.heap.objs.size + 1, [s1.heap.objs.size + 1, s1.heap.objs.size], _, _, H1, rfl, I2, turn_enumT a (s1.heap.objs.size + 1) s1.heap.objs.size, ⟨⟨.none, he⟩, ⟨_, hit, rfl, rfl⟩, Nat.succ_ne_self _⟩, fun b hb => ?_, q⟩
    have e' : b = s1.heap.objs.size + 1 ∨ b = s1.heap.objs.size := by simpa using hb
    have hle : s1.heap.objs.size ≤ b := by
      rcases e' with z | z
      · rw [z]; exact Nat.le_add_right _ _
      · rw [z]; exact Nat.le_refl _
    exact I1.fpOk hle (I1.hok.fresh hle)
theorem walk_enumT {K : PySem.W.Frag} {a : Addr} {xs : List V} : Walk (Itet K a) xs.length (fun H => SqT K H a xs) (YPair (fun i => some (.int (i : Nat))) (fun i => xs[i]?)) := by
  refine ⟨fun i _ hi q => ⟨xs, xs[i], q, by simp [hi]⟩, fun _ q => ⟨xs, q, Nat.le_refl _⟩, fun i H v H' _ q y => ?_⟩
  obtain ⟨T, x, h1, h2, h3, h4⟩ := y
  exact ⟨T, .int (i : Nat), x, h1, h2, h3, rfl, h4 xs q⟩
end FX
set_option Elab.async false
set_option linter.all false
set_option maxRecDepth 100000
set_option maxHeartbeats 4000000
namespace FX
open PySem PySem.Spec PyProof.Rows L2
/-! ### heaps -/
theorem same_upd {H : Hp} {p : Addr} {o : HO} (h : H p = none) : Same H (upd H p o) := fun b x e => by
  rw [upd_ne (ne_of_none e h)]
  exact e
theorem Same.up {H H1 : Hp} {p : Addr} {o : HO} (s : Same H H1) (h : H1 p = none) : Same H (upd H1 p o) := s.trans (same_upd h)
/-- a store to an object that is new since H -/
theorem Same.set {H H1 : Hp} {p : Addr} {o : HO} (s : Same H H1) (h : H p = none) : Same H (upd H1 p o) := fun b x e => by
  rw [upd_ne (ne_of_none e h)]
  exact s b x e
theorem SqT.same {K : PySem.W.Frag} {H H' : Hp} {a : Addr} {xs : List V} (e : Same H H') (h : SqT K H a xs) : SqT K H' a xs := SqT.ext h e
mutual
theorem Dp.same {K : PySem.W.Frag} {H H' : Hp} (e : Same H H') : ∀ {v : V} {d : PyData}, Dp K H v d → Dp K H' v d
  | _, _, .non => .non
  | _, _, .bl b => .bl b
  | _, _, .int i => .int i
  | _, _, .str x => .str x
  | _, _, .lst hs ha => .lst (e.seq hs) (DpAll.same e ha)
  | _, _, .tup hs ha => .tup (SqT.same e hs) (DpAll.same e ha)
theorem DpAll.same {K : PySem.W.Frag} {H H' : Hp} (e : Same H H') : ∀ {vs : List V} {ds : List PyData}, DpAll K H vs ds → DpAll K H' vs ds
  | _, _, .nil => .nil
  | _, _, .cons h t => .cons (Dp.same e h) (DpAll.same e t)
end
section
variable {K : PySem.W.Frag} {H : Hp}
theorem DpAll.len {vs : List V} {ds : List PyData} (h : DpAll K H vs ds) : vs.length = ds.length := by
  induction vs generalizing ds with
  | nil => cases h; rfl
  | cons v vs ih => cases h with | cons a b => rw [List.length_cons, List.length_cons, ih b]
theorem DpAll.get {vs : List V} {ds : List PyData} (h : DpAll K H vs ds) {i : Nat} {d : PyData} (e : ds[i]? = some d) : ∃ v, vs[i]? = some v ∧ Dp K H v d := by
  induction vs generalizing ds i with
  | nil => cases h; simp at e
  | cons v vs ih =>
    cases h with
    | cons a b =>
      cases i with
      | zero => simp at e; subst e; exact ⟨v, rfl, a⟩
      | succ i => simp at e; simpa using ih b e
theorem DpAll.get' {vs : List V} {ds : List PyData} (h : DpAll K H vs ds) {i : Nat} {v : V} (e : vs[i]? = some v) : ∃ d, ds[i]? = some d ∧ Dp K H v d := by
  induction vs generalizing ds i with
  | nil => simp at e
  | cons w vs ih =>
    cases h with
    | cons a b =>
      cases i with
      | zero => simp at e; subst e; exact ⟨_, rfl, a⟩
      | succ i => simp at e; simpa using ih b e
theorem DpAll.app {vs : List V} {ds : List PyData} (h : DpAll K H vs ds) {ws : List V} {es : List PyData} (h2 : DpAll K H ws es) : DpAll K H (vs ++ ws) (ds ++ es) := by
  induction vs generalizing ds with
  | nil => cases h; exact h2
  | cons v vs ih => cases h with | cons a b => exact .cons a (ih b)
theorem DpAll.one {v : V} {d : PyData} (h : Dp K H v d) : DpAll K H [v] [d] := .cons h .nil
theorem Dp.tupOf {v : V} {ds : List PyData} (h : Dp K H v (.tuple ds)) : ∃ a xs, v = .ref a ∧ SqT K H a xs ∧ DpAll K H xs ds := by
  cases h with | tup hs ha => exact ⟨_, _, rfl, hs, ha⟩
theorem Dp.lstOf {v : V} {ds : List PyData} (h : Dp K H v (.list ds)) : ∃ a xs, v = .ref a ∧ SqL K H a xs ∧ DpAll K H xs ds := by
  cases h with | lst hs ha => exact ⟨_, _, rfl, hs, ha⟩
theorem Dp.intOf {v : V} {i : Int} (h : Dp K H v (.int i)) : v = .int i := by cases h; rfl
theorem Dp.strOf {v : V} {s : Str} (h : Dp K H v (.str s)) : v = .str s := by cases h; rfl
theorem Dp.tupNew {p : Addr} {xs : List V} {ds : List PyData} (hp : H p = some (.tup xs)) (h : DpAll K H xs ds) : Dp K H (.ref p) (.tuple ds) := .tup (.inl (.inl hp)) h
theorem Dp.lstNew {p : Addr} {xs : List V} {ds : List PyData} (hp : H p = some (.lst xs)) (h : DpAll K H xs ds) : Dp K H (.ref p) (.list ds) := .lst (.inl (.inl hp)) h
theorem dpInts : ∀ ns : List Int, DpAll K H (ns.map V.int) (ns.map PyData.int)
  | [] => .nil
  | n :: r => .cons (.int n) (dpInts r)
end
/-! ### a heap without some of its objects -/
def hid (ls : List Addr) (H : Hp) : Hp := fun b => if b ∈ ls then none else H b
theorem hid_out {ls : List Addr} {H : Hp} {b : Addr} (h : b ∉ ls) : hid ls H b = H b := if_neg h
theorem hid_sub (ls : List Addr) (H : Hp) : Same (hid ls H) H := fun b o e => by
  unfold hid at e
  split at e
  · cases e
  · exact e
theorem hid_same {ls : List Addr} {H H' : Hp} (h : ∀ b o, b ∉ ls → H b = some o → H' b = some o) : Same (hid ls H) (hid ls H') := fun b o e => by
  unfold hid at e ⊢
  split at e
  · cases e
  · rename_i hb
    rw [if_neg hb]
    exact h b o hb e
theorem hid_upd {ls : List Addr} {H : Hp} {l : Addr} {o : HO} (h : l ∈ ls) : hid ls (upd H l o) = hid ls H := by
  funext b
  unfold hid
  split
  · rfl
  · rename_i hb
    exact upd_ne fun e => hb (e ▸ h)
theorem hid_up {ls : List Addr} {H : Hp} {p : Addr} {o : HO} (h : H p = none) : Same (hid ls H) (hid ls (upd H p o)) := hid_same fun b x _ e => same_upd h b x e
/-- what is new since H -/
def New (H H' : Hp) : Hp := fun b => if H b = none then H' b else none
theorem new_sub (H H' : Hp) : Same (New H H') H' := fun b o e => by
  unfold New at e
  split at e
  · exact e
  · cases e
theorem new_hid {H H' : Hp} {ls : List Addr} (h : ∀ l ∈ ls, H l ≠ none) : Same (New H H') (hid ls H') := fun b o e => by
  unfold New at e
  split at e
  · rename_i hb
    rw [hid_out fun q => h b q hb]
    exact e
  · cases e
theorem new_mono {H H1 H2 H3 : Hp} (a : Same H H1) (b : Same H2 H3) : Same (New H1 H2) (New H H3) := fun x o e => by
  unfold New at e ⊢
  split at e
  · rename_i hx
    rw [if_pos (a.free hx)]
    exact b x o e
  · cases e
theorem new_at {H H' : Hp} {p : Addr} {o : HO} (h : H p = none) (h' : H' p = some o) : New H H' p = some o := by
  unfold New
  rw [if_pos h]
  exact h'
theorem new_trans {H H1 H2 : Hp} (b : Same H1 H2) : Same (New H H1) (New H H2) := new_mono (Same.refl H) b
/-- a comprehension that keeps every item: what each item is, of the heap without the list that grows -/
theorem lc_rel {J : It} {n : Nat} {G : Hp → Prop} {Y : Nat → Hp → V → Hp → Prop} (w : Walk J n G Y) {g : TG} {tt : TT} {te : TE} {vs : List Nat} {σ : L2.St} {H1 : Hp} {D : Addr} {Qd : Hp → Prop}
    (R : Nat → V → Hp → Prop) (hR : ∀ j v H H', Same H H' → R j v H → R j v H') (hD : H1 D = none) (hn : n < sizeLine) (hG : ∀ H, Same H1 H → G H)
    (hs : ∀ i x H H', i < n → Same H1 H → (∃ o, H D = some o) → Y i H x H' → (∀ y H4, Same H H4 → R i y (hid [D] H4) → ∃ acc, H4 D = some (.lst acc) ∧ acc.length < sizeLine ∧
        (Same H1 (upd H4 D (.lst (acc ++ [y]))) ∧ ∃ xs, upd H4 D (.lst (acc ++ [y])) D = some (.lst xs) ∧ xs.length = i + 1 ∧ ∀ j v, xs[j]? = some v → R j v (hid [D] (upd H4 D (.lst (acc ++ [y])))))) →
      g x (wipe σ vs) H' fun σ2 H2 => wipe σ2 vs = wipe σ vs ∧ tt σ2 H2 fun b H3 =>
      if b = true then te σ2 H3 fun y H4 => ∃ acc, H4 D = some (.lst acc) ∧ acc.length < sizeLine ∧
        (Same H1 (upd H4 D (.lst (acc ++ [y]))) ∧ ∃ xs, upd H4 D (.lst (acc ++ [y])) D = some (.lst xs) ∧ xs.length = i + 1 ∧ ∀ j v, xs[j]? = some v → R j v (hid [D] (upd H4 D (.lst (acc ++ [y])))))
      else (Same H1 H3 ∧ ∃ xs, H3 D = some (.lst xs) ∧ xs.length = i + 1 ∧ ∀ j v, xs[j]? = some v → R j v (hid [D] H3)))
    (hd : ∀ H xs, Same H1 H → H D = some (.lst xs) → xs.length = n → (∀ j v, xs[j]? = some v → R j v (hid [D] H)) → Qd H) :
    ∃ W : Nat → Nat → Hp → Prop, (∃ m, W 0 m (upd H1 D (.lst []))) ∧ ∀ i m H, W i m H →
      (J.stop i H ∧ Qd H) ∨ (J.go i H ∧ ∃ Nx : Hp → Prop, (∀ H', Nx H' → ∃ m', m' < m ∧ W (i + 1) m' H') ∧ ∀ x H', J.yld i H x H' → g x (wipe σ vs) H' fun σ2 H2 => wipe σ2 vs = wipe σ vs ∧ tt σ2 H2 fun b H3 =>
        if b = true then te σ2 H3 fun y H4 => ∃ acc, H4 D = some (.lst acc) ∧ acc.length < sizeLine ∧ Nx (upd H4 D (.lst (acc ++ [y]))) else Nx H3) := by
  refine lc_it w (fun i H => Same H1 H ∧ ∃ xs, H D = some (.lst xs) ∧ xs.length = i ∧ ∀ j v, xs[j]? = some v → R j v (hid [D] H)) ⟨same_upd hD, [], upd_same, rfl, fun j v h => by simp at h⟩ (fun i H _ h => hG H h.1) ?_ ?_
  · rintro i x H H' hi ⟨sm, xs, hx, hl, hr⟩ y
    refine hs i x H H' hi sm ⟨_, hx⟩ y fun y H4 s4 r4 => ?_
    have h4 := s4 _ _ hx
    refine ⟨xs, h4, by omega, fun b o e => ?_, xs ++ [y], upd_same, by simp [hl], fun j v hj => ?_⟩
    · rw [upd_ne (ne_of_none e hD)]
      exact s4 _ _ (sm _ _ e)
    · rw [hid_upd List.mem_cons_self]
      by_cases hlt : j < xs.length
      · rw [List.getElem?_append_left hlt] at hj
        exact hR j v _ _ (hid_same fun b o _ e => s4 b o e) (hr j v hj)
      · have hj' : j = xs.length := by
          have q := (List.getElem?_eq_some_iff.mp hj).1
          simp at q
          omega
        subst hj'
        rw [List.getElem?_append_right (Nat.le_refl _)] at hj
        simp at hj
        subst hj
        rw [hl]
        exact r4
  · rintro H ⟨sm, xs, hx, hl, hr⟩
    exact hd H xs sm hx hl hr
/-- items that are data, one by one -/
theorem dpAll_of {K : PySem.W.Frag} {H : Hp} : ∀ {xs : List V} {ds : List PyData}, xs.length = ds.length → (∀ (j : Nat) v d, xs[j]? = some v → ds[j]? = some d → Dp K H v d) → DpAll K H xs ds
  | [], [], _, _ => .nil
  | x :: xs, d :: ds, hl, h => .cons (h 0 x d rfl rfl) (dpAll_of (by simpa using hl) fun j v e h1 h2 => h (j + 1) v e (by simpa using h1) (by simpa using h2))
  | [], _ :: _, hl, _ => by simp at hl
  | _ :: _, [], hl, _ => by simp at hl
/-! ### what a machine is, as data -/
def S (l : List Nat) : Str := ⟨l.toArray⟩
def turnD (t : Nat × List Nat) : PyData := .tuple [.int t.1, .str (S t.2)]
def rowD (r : List (Nat × List Nat)) : PyData := .tuple (r.map turnD)
def rowsD (R : Rows) : PyData := .tuple (R.map rowD)
/-! ### what isinstance tells of data -/
def tyD : PyData → Option String
  | .none => some "NoneType"
  | .bool _ => some "bool"
  | .int _ => some "int"
  | .str _ => some "str"
  | .list _ => some "list"
  | .tuple _ => some "tuple"
  | _ => Option.none
theorem SqT.tyX {K : PySem.W.Frag} {H : Hp} {a : Addr} {xs : List V} (h : SqT K H a xs) : TyX K H (.ref a) (.type "tuple") := by
  rcases h with (h | ⟨o, h⟩) | ⟨o, its, n, h, hc, _⟩
  · exact .base (.tup h)
  · exact .fTuple h
  · exact .kTuple h hc
theorem SqL.tyX {K : PySem.W.Frag} {H : Hp} {a : Addr} {xs : List V} (h : SqL K H a xs) : TyX K H (.ref a) (.type "list") := by
  rcases h with (h | ⟨o, h⟩) | ⟨o, its, n, h, hc, _⟩
  · exact .base (.lst h)
  · exact .base (.frz h)
  · exact .kList h hc
theorem Dp.ty {K : PySem.W.Frag} {H : Hp} {v : V} {d : PyData} (h : Dp K H v d) : ∃ t, tyD d = some t ∧ TyX K H v (.type t) := by
  cases h with
  | non => exact ⟨_, rfl, .base .non⟩
  | bl b => exact ⟨_, rfl, .base (.bl b)⟩
  | int i => exact ⟨_, rfl, .base (.int i)⟩
  | str x => exact ⟨_, rfl, .base (.str x)⟩
  | lst hs ha => exact ⟨_, rfl, SqL.tyX hs⟩
  | tup hs ha => exact ⟨_, rfl, SqT.tyX hs⟩
/-- whether data are of a built-in class -/
def isB (c : String) (d : PyData) : Bool := match d, c with
  | .none, _ => false
  | .bool _, c => c == "bool" || c == "int"
  | .int _, c => c == "int"
  | .str _, c => c == "str"
  | .list _, c => c == "list"
  | .tuple _, c => c == "tuple"
  | _, _ => false
theorem Dp.isB {K : PySem.W.Frag} {H : Hp} {v : V} {d : PyData} (h : Dp K H v d) {c : String} (hc : c ∈ ["int", "bool", "str", "list", "tuple"]) : ∃ t, TyX K H v t ∧ PySem.W.kitOne K t (.type c) = some (isB c d) := by
  simp only [List.mem_cons, List.mem_nil_iff, or_false] at hc
  cases h with
  | non => exact ⟨_, .base .non, by rcases hc with rfl | rfl | rfl | rfl | rfl <;> exact kit_ty (by first | (show kitB _ _ = some true; decide +kernel) | (show kitB _ _ = some false; decide +kernel))⟩
  | bl b => exact ⟨_, .base (.bl b), by rcases hc with rfl | rfl | rfl | rfl | rfl <;> exact kit_ty (by first | (show kitB _ _ = some true; decide +kernel) | (show kitB _ _ = some false; decide +kernel))⟩
  | int i => exact ⟨_, .base (.int i), by rcases hc with rfl | rfl | rfl | rfl | rfl <;> exact kit_ty (by first | (show kitB _ _ = some true; decide +kernel) | (show kitB _ _ = some false; decide +kernel))⟩
  | str x => exact ⟨_, .base (.str x), by rcases hc with rfl | rfl | rfl | rfl | rfl <;> exact kit_ty (by first | (show kitB _ _ = some true; decide +kernel) | (show kitB _ _ = some false; decide +kernel))⟩
  | lst hs ha => exact ⟨_, SqL.tyX hs, by rcases hc with rfl | rfl | rfl | rfl | rfl <;> exact kit_ty (by first | (show kitB _ _ = some true; decide +kernel) | (show kitB _ _ = some false; decide +kernel))⟩
  | tup hs ha => exact ⟨_, SqT.tyX hs, by rcases hc with rfl | rfl | rfl | rfl | rfl <;> exact kit_ty (by first | (show kitB _ _ = some true; decide +kernel) | (show kitB _ _ = some false; decide +kernel))⟩
/-- isinstance(x, c), answered of data -/
theorem isi_of {K : PySem.W.Frag} {H : Hp} {v : V} {d : PyData} (h : Dp K H v d) {c : String} (hc : c ∈ ["int", "bool", "str", "list", "tuple"]) {Q : V → Hp → Prop} (q : Q (.bl (FX.isB c d)) H) :
    rIsi K [v, .ty c] H Q := by
  obtain ⟨t, h1, h2⟩ := Dp.isB h hc
  exact ⟨v, .ty c, t, _, _, rfl, .ty c, h1, h2, q⟩
/-! ### the letters of the laws -/
def L8 : List Str := ["ab", "ba", "abc", "_ab", "Aa", "cab_", "Zz_"]
def zs (z : Str) : List Nat := z.cps.toList
def signs : Str := "ABCDEFGHIJKLMNOPQRSTUVWXYZ_abcdefghijklmnopqrstuvwxyz"
theorem l8_len : ∀ z ∈ L8, 2 ≤ z.length ∧ z.length ≤ 4 := by decide +kernel
theorem l8_nodup : ∀ z ∈ L8, (zs z).Nodup := by decide +kernel
theorem l8_signs : ∀ z ∈ L8, ∀ c ∈ zs z, c ∈ zs signs := by decide +kernel
theorem l8_count : ∀ z ∈ L8, ∀ c ∈ zs z, Txt.count z (S [c]) = 1 := by decide +kernel
theorem l8_index : ∀ z ∈ L8, ∀ c ∈ zs z, Builtin.Str.occurrences z (S [c]) 0 z.length 1 = [ix (zs z) c] := by decide +kernel
theorem zs_length (z : Str) : (zs z).length = z.length := by simp [zs, Str.length]
theorem zs_S (l : List Nat) : zs (S l) = l := by simp [zs, S]
theorem S_zs (x : Str) : S (zs x) = x := by simp [zs, S]
theorem S_len (l : List Nat) : (S l).length = l.length := by simp [S, Str.length]
theorem S_inj {a b : List Nat} (h : S a = S b) : a = b := by rw [← zs_S a, ← zs_S b, h]
theorem join_flat : ∀ ls : List (List Nat), Txt.join (S []) (ls.map S) = S ls.flatten := by
  intro ls
  rw [TL.join_eq]
  have h : ∀ ls : List (List Nat), TL.tl (Str.join (S []) (ls.map S)) = ls.flatten := by
    intro ls
    rw [TL.tl_join]
    have e : ∀ l : List (List Nat), TL.joinL (TL.tl (S [])) ((l.map S).map TL.tl) = l.flatten := by
      intro l
      induction l with
      | nil => rfl
      | cons a r ih =>
        cases r with
        | nil => simp [TL.joinL, S, TL.tl]
        | cons b r =>
          simp only [List.map_cons] at ih ⊢
          rw [TL.joinL, ih]
          simp [S, TL.tl]
    exact e ls
  have h2 := h ls
  have e3 : ∀ x y : Str, TL.tl x = TL.tl y → x = y := fun x y e => by
    rw [← S_zs x, ← S_zs y]
    exact congrArg S e
  exact e3 _ _ (h2.trans (zs_S _).symm)
theorem str_at {x : Str} {i c : Nat} (h : x.cps[i]? = some c) : (zs x)[i]? = some c := by
  have := h
  simpa [zs] using this
theorem str_mem {x : Str} {i c : Nat} (h : x.cps[i]? = some c) : c ∈ zs x := List.mem_of_getElem? (str_at h)
theorem new_hid_at {H0 H : Hp} {ls : List Addr} {p : Addr} {o : HO} (h0 : H0 p = none) (hp : p ∉ ls) (h : H p = some o) : New H0 (hid ls H) p = some o := new_at h0 (by rw [hid_out hp]; exact h)
/-- a tuple made of a list's items -/
theorem tup_new {K : PySem.W.Frag} {H0 H : Hp} {ls : List Addr} {l : Addr} {xs : List V} {ds : List PyData} (sm : Same H0 H) (hl : H l = none) (h : DpAll K (New H0 (hid ls H)) xs ds) : Dp K (New H0 (upd H l (.tup xs))) (.ref l) (.tuple ds) :=
  Dp.tupNew (new_at (sm.free hl) upd_same) (DpAll.same (new_trans ((hid_sub ls H).trans (same_upd hl))) h)
theorem dp_new {K : PySem.W.Frag} {H0 H : Hp} {v : V} {d : PyData} (h : Dp K (New H0 H) v d) : Dp K H v d := Dp.same (new_sub _ _) h
/-- what is new since H2 is none of ls, all there then -/
theorem new_in {H0 H2 H3 : Hp} {ls : List Addr} (s : Same H0 H2) (h : ∀ l ∈ ls, H2 l ≠ none) : Same (New H2 H3) (New H0 (hid ls H3)) := fun b o e => by
  unfold New at e ⊢
  split at e
  · rename_i hb
    rw [if_pos (s.free hb), hid_out fun q => h b q hb]
    exact e
  · cases e
theorem int1 (i : Nat) : V.int ((i : Int) + 1) = V.int ((i + 1 : Nat) : Int) := by rw [show ((i : Int) + 1) = ((i + 1 : Nat) : Int) by omega]
theorem int01 (i : Nat) : V.int ((0 : Int) + (i : Int) + 1) = V.int ((i + 1 : Nat) : Int) := by rw [show ((0 : Int) + (i : Int) + 1) = ((i + 1 : Nat) : Int) by omega]
theorem int0 (i : Nat) : V.int ((0 : Int) + (i : Int)) = V.int ((i : Nat) : Int) := by rw [Int.zero_add]
theorem new_in2 {H0 H2 H3 : Hp} {D : Addr} (s : Same H0 H2) (h : H3 D = none) : Same (New H2 H3) (New H0 (hid [D] H3)) := fun b o e => by
  unfold New at e ⊢
  split at e
  · rename_i hb
    have hbD : b ≠ D := ne_of_none e h
    rw [if_pos (s.free hb), hid_out (by simp; exact hbD)]
    exact e
  · cases e
theorem S_nil : S [] = Str.ofString "" := rfl
theorem S_cons (d : Nat) : S [d] ≠ Str.ofString "" := fun h => by
  have h' := congrArg zs h
  rw [zs_S, ← S_nil, zs_S] at h'
  cases h'
theorem hid_less {ls ls' : List Addr} {H : Hp} (h : ∀ b ∈ ls', b ∈ ls) : Same (hid ls H) (hid ls' H) := fun b o e => by
  unfold hid at e ⊢
  split at e
  · cases e
  · rename_i hb
    rw [if_neg fun q => hb (h b q)]
    exact e
/-- one more object is made, and hidden -/
theorem hid_more {ls : List Addr} {H : Hp} {l : Addr} {o : HO} (h : H l = none) : Same (hid ls H) (hid (l :: ls) (upd H l o)) := fun b x e => by
  unfold hid at e ⊢
  split at e
  · cases e
  · rename_i hb
    have hbl := ne_of_none e h
    rw [if_neg (by simp; exact ⟨hbl, hb⟩), upd_ne hbl]
    exact e
theorem idxOf_first {α : Type} [BEq α] [LawfulBEq α] {q : α} : ∀ {l : List α} {m : Nat}, m < l.idxOf q → l[m]? ≠ some q
  | [], m, h => by simp
  | a :: l, m, h => by
    rw [List.idxOf_cons] at h
    cases e0 : (a == q) with
    | true =>
      rw [e0] at h
      simp at h
    | false =>
      have e' : (a == q) = false := e0
      have e : ¬ a = q := by simpa using e0
      rw [e'] at h
      simp at h
      cases m with
      | zero => simp [e]
      | succ m =>
        simp only [List.getElem?_cons_succ]
        exact idxOf_first (by omega)
theorem idxOf_at {α : Type} [BEq α] [LawfulBEq α] {q : α} {l : List α} (h : q ∈ l) : l[l.idxOf q]? = some q := by
  have h1 := List.idxOf_lt_length_of_mem h
  rw [List.getElem?_eq_getElem h1]
  simp
/-! ### pairs of numbers, as data -/
def dP (p : Nat × Nat) : PyData := .tuple [.int p.1, .int p.2]
theorem dP_eqv (p q : Nat × Nat) : PyData.eqv (dP p) (dP q) = decide (p = q) := by
  obtain ⟨a, b⟩ := p
  obtain ⟨c, d⟩ := q
  have e : PyData.eqv (dP (a, b)) (dP (c, d)) = (((a : Int) == (c : Int)) && (((b : Int) == (d : Int)) && true)) := by simp only [dP, PyData.eqv, PyData.eqvAll]
  rw [e]
  by_cases h : (a, b) = (c, d)
  · cases h
    simp
  · rw [decide_eq_false h]
    have h' : ¬ (a = c ∧ b = d) := fun ⟨h1, h2⟩ => h (by rw [h1, h2])
    by_cases h1 : a = c
    · have h2 : ((b : Int) == (d : Int)) = false := beq_eq_false_iff_ne.mpr (fun e => h' ⟨h1, by omega⟩)
      rw [h2]
      simp
    · have h2 : ((a : Int) == (c : Int)) = false := beq_eq_false_iff_ne.mpr (by omega)
      rw [h2]
      rfl
theorem dP_lay (p : Nat × Nat) : (dP p).canLay0 = true := by simp [dP, PyData.canLay0, PyData.canLayAll0]
theorem dP_depth (p : Nat × Nat) : (dP p).depth ≤ 1 := by simp [dP, PyData.depth, PyData.depthAll]
theorem shaped_of {d : PyData} (h1 : d.canLay0 = true) (h2 : d.depth ≤ 64) : SeqAt.shaped d = true := by
  show (d.canLay0 && decide (d.depth ≤ 64)) = true
  rw [h1, decide_eq_true h2]
  rfl
theorem dP_shaped (p : Nat × Nat) : SeqAt.shaped (dP p) = true := shaped_of (dP_lay p) (Nat.le_trans (dP_depth p) (by decide))
theorem layAll_of {ds : List PyData} (h : ∀ d ∈ ds, d.canLay0 = true) : PyData.canLayAll0 ds = true := by
  induction ds with
  | nil => simp [PyData.canLayAll0]
  | cons d ds ih => simp [PyData.canLayAll0, h d List.mem_cons_self, ih fun e he => h e (List.mem_cons_of_mem _ he)]
theorem depthAll_of {ds : List PyData} {n : Nat} (h : ∀ d ∈ ds, d.depth ≤ n) : PyData.depthAll ds ≤ n := by
  induction ds with
  | nil => simp [PyData.depthAll]
  | cons d ds ih =>
    have h1 := h d List.mem_cons_self
    have h2 := ih fun e he => h e (List.mem_cons_of_mem _ he)
    simp only [PyData.depthAll]
    omega
theorem dPs_shaped (ps : List (Nat × Nat)) : SeqAt.shaped (.list (ps.map dP)) = true := by
  refine shaped_of ?_ ?_
  · simp only [PyData.canLay0]
    exact layAll_of fun d hd => by obtain ⟨p, _, rfl⟩ := List.mem_map.mp hd; exact dP_lay p
  · have h1 := depthAll_of (ds := ps.map dP) (n := 1) fun d hd => by obtain ⟨p, _, rfl⟩ := List.mem_map.mp hd; exact dP_depth p
    simp only [PyData.depth]
    omega
theorem dPs_any (ps : List (Nat × Nat)) (q : Nat × Nat) : (ps.map dP).any (fun z => PyData.eqv z (dP q)) = decide (q ∈ ps) := by
  rw [List.any_map]
  by_cases h : q ∈ ps
  · rw [decide_eq_true h, List.any_eq_true]
    exact ⟨q, h, by show PyData.eqv _ _ = true; rw [dP_eqv]; simp⟩
  · rw [decide_eq_false h, List.any_eq_false]
    intro x hx
    show ¬ PyData.eqv _ _ = true
    rw [dP_eqv]
    simp
    exact fun e => h (e ▸ hx)
/-- l.index(pair) -/
theorem index_facts {ps : List (Nat × Nat)} {q : Nat × Nat} (hq : q ∈ ps) : (ps.map dP)[ps.idxOf q]? = some (dP q) ∧ PyData.eqv (dP q) (dP q) = true ∧
    ∀ (m : Nat) (z' : PyData), m < ps.idxOf q → (ps.map dP)[m]? = some z' → PyData.eqv z' (dP q) = false := by
  refine ⟨?_, ?_, ?_⟩
  · rw [List.getElem?_map, idxOf_at hq]
    rfl
  · rw [dP_eqv]
    simp
  · intro m z' hm hz
    rw [List.getElem?_map] at hz
    cases e : ps[m]? with
    | none =>
      rw [e] at hz
      cases hz
    | some p =>
      rw [e] at hz
      cases hz
      rw [dP_eqv]
      refine decide_eq_false fun h => ?_
      exact idxOf_first hm (by rw [e, h])
end FX
set_option Elab.async false
set_option linter.all false
set_option maxRecDepth 100000
set_option maxHeartbeats 4000000
namespace FX
open PySem PySem.W PyProof.Rows L2
section
variable {prog : Program} {w : World} {A : Around} {E : Value → Shared → Prop} {s : Shared} {K : PySem.W.Frag} {x y C f : Addr} {ox : Obj} {od : Option Obj}
theorem ifBoundB {name : Str} {id : String} {args : List Value} {Q : Option Value → Shared → Prop} (X : K.In s.heap) (I : PySem.W.InstAt s.heap x ox C od) (hs : findIn K (.ref C) name = some (some (.builtin id))) (hb : ∀ self, bindSpecial (.builtin id) self = pure (.builtin id, [self]))
    (h : wpAny (model prog w) A (call (.builtin id) (.ref x :: args)) (fun v => Q (some v)) E s) : wpAny (model prog w) A (callSpecialIfBound? (.ref x) name args) Q E s := by
  simp only [callSpecialIfBound?, bindSpecialIfBound?]
  refine wpAny_holding (wpAny_bind (wpAny_bind (wpAny_bind (I.type.here ((looks_findIn X hs).here ?_)))))
  simp only [hb]
  refine wpAny_bind (wpAny_askSetting (wpAny_ite ?_))
  have fin : wpAny (model prog w) A (call (.builtin id) ([.ref x] ++ args) >>= fun v => pure (some v)) Q E s := wpAny_bind (wpAny_mono h (fun v s' h' => wpAny_pure h') fun _ _ h' => h')
  split
  · exact wpAny_bind (wpAny_pure (wpAny_pure fin))
  · exact wpAny_tryCatch (wpAny_bind (wpAny_pure (wpAny_pure fin)))
theorem ne_own {Q : Value → Shared → Prop} (hu : A.units + 1 < cLine) (X : K.In s.heap) (I : PySem.W.InstAt s.heap x ox C od) (hy : Looks (model prog w) s.heap (typeOf (.ref y)) (.ref C)) (hne : findIn K (.ref C) "__ne__" = some (some (.builtin "object.__ne__")))
    (heq : findIn K (.ref C) "__eq__" = some (some (.ref f))) (hf : isFn K (.ref f) = true) (hm : mroIn K C (.type "object") = some true)
    (h : codeAny (model prog w) A.in1 (.call (.ref f) ⟨[.ref x, .ref y], []⟩) (fun r s' => match r with | .ok (.ret v) => ∃ b, v = .bool b ∧ Q (.bool (!b)) s' | .ok _ => False | .error e => E e s') s) : wpAny (model prog w) A (richCompare .NotEq (.ref x) (.ref y)) Q E s := by
  have hi : Looks (model prog w) s.heap (isInstance (.ref x) (.type "object")) true := (I.type (M := model prog w)).andThen (looks_subIn X (show subIn K (.ref C) (.type "object") = some true from hm))
  have one : wpAny (model prog w) A (tryCompare (.ref x) (cmpInfo .NotEq).2.1 (.ref y)) (fun r s' => ∃ v, r = some v ∧ Q v s') E s := by
    unfold tryCompare
    refine wpAny_bind (ifBoundB X I (name := "__ne__") hne F.cmp_object.ne.bind (wpAny_call (codeAny_call_builtin F.cmp_object.ne.plain F.cmpEntry_ne (check_slot F.cmpKind_ne F.cmpSplit_ne hi (F.cmpArgs_ne _ _) ?_))))
    unfold Builtin.«object.__ne__»
    have hu1 : A.in1.units < cLine := hu
    repeat (first | with_reducible refine wpAny_cRoomFor hu1 ?_ | with_reducible refine ifBound_K X I heq hf ?_ | wp_step)
    refine codeAny_mono h (fun r s' hr => ?_)
    cases r with
    | error e => exact hr
    | ok fl =>
      cases fl with
      | ret v =>
        obtain ⟨b, rfl, q⟩ := hr
        repeat (first | with_reducible refine wpAny_truthy_bool ?_ | wp_step)
        exact ⟨_, rfl, q⟩
      | next => exact False.elim hr
      | brk => exact False.elim hr
      | cont => exact False.elim hr
  unfold richCompare
  simp only [oneThing_ref]
  refine wpAny_holding (wpAny_bind (wpAny_cRoomFor (Nat.lt_of_succ_lt hu) ?_))
  refine wpAny_bind (I.type.here (wpAny_bind (hy.here ?_)))
  rw [if_neg (by simp)]
  refine wpAny_bind (wpAny_pure ?_)
  simp only [Bool.false_eq_true, if_false]
  refine wpAny_bind (wpAny_mono one (fun r s' z => ?_) fun _ _ e => e)
  obtain ⟨v, rfl, hq⟩ := z
  exact wpAny_pure hq
end
/-- x != y of instances of the class at C, by its own == (whose promise tells a Bool) -/
def rNeOwn (K : PySem.W.Frag) (C : Addr) (sp : Sp) : R2 := fun x y H Q => ∃ a b dx dy fs gs, x = .ref a ∧ y = .ref b ∧ H a = some (.ins C dx fs) ∧ H b = some (.ins C dy gs) ∧ sp [.ref a, .ref b] H (fun v H' => ∃ k, v = .bl k ∧ Q (.bl (!k)) H') E0
theorem op_neOwn {X : Cx} {k : Nat} {C f : Addr} {fd : FuncData} {ps : List Str} {sp : Sp} (F : FnOk X.prog X.w X.K X.mg X.base CX0 k f fd ps sp) (hr : Room (k + 1) X.A) (hne : findIn X.K (.ref C) "__ne__" = some (some (.builtin "object.__ne__")))
    (heq : findIn X.K (.ref C) "__eq__" = some (some (.ref f))) (hf : isFn X.K (.ref f) = true) (hm : mroIn X.K C (.type "object") = some true) (hb : Binds X.K fd ps []) : OpR X (compareOp .NotEq) (rNeOwn X.K C sp) := by
  intro pins s σ H x y v u Q I rx ry hq
  obtain ⟨a, b, dx, dy, fs, gs, rfl, rfl, ha, hb', hsp⟩ := hq
  cases rx
  cases ry
  obtain ⟨mA, J, _⟩ := ins_get I.hok ha
  obtain ⟨mB, J', _⟩ := ins_get I.hok hb'
  obtain ⟨od, J, _⟩ := J.look
  obtain ⟨od', J', _⟩ := J'.look
  have hl := F.len _ _ _ _ hsp
  refine ne_own (by have := hr.un; omega) I.kIn J J'.type hne heq hf hm ?_
  refine codeAny_mono (F.run X.A.in1 X.stack s H ⟨[.ref a, .ref b], []⟩ [.ref a, .ref b] [.ref a, .ref b] _ E0 hr.in1 I.env0.in1 (by
    have := hb s [.ref a, .ref b] I.kIn (by simpa using hl)
    simpa using this) (.cons rfl (.cons rfl .nil)) hsp) fun r s' hq => ?_
  cases r with
  | error e => exact pass0 (X := X) pins σ H s e s' I hq
  | ok fl =>
    cases fl with
    | ret w =>
      obtain ⟨z, H', I', rz, k, ez, q⟩ := I.after hq
      subst ez
      obtain rfl : w = .bool k := rz
      exact ⟨k, rfl, .bl (!k), H', I', rfl, q⟩
    | next => exact False.elim hq
    | brk => exact False.elim hq
    | cont => exact False.elim hq
end FX
set_option Elab.async false
set_option linter.all false
set_option maxRecDepth 100000
set_option maxHeartbeats 8000000
namespace K2
open PySem PySem.Spec PyProof.Rows L2 FX
def top (i : Nat) : Stmt := PySem.Challenge.pw_foldlook_k02_whole_behind.main.body.getD i (.Pass ⟨0, 0, 0, 0⟩)
abbrev s_is_whole : Stmt := top 10
theorem sc_is_whole : FnScope ["thing"] ["thing"] (defScope s_is_whole) := ⟨rfl, rfl, rfl, by decide +kernel, rfl, by decide +kernel, by decide +kernel⟩
abbrev s_is_letters : Stmt := top 11
theorem sc_is_letters : FnScope ["thing", "sign"] ["thing"] (defScope s_is_letters) := ⟨rfl, rfl, rfl, by decide +kernel, rfl, by decide +kernel, by decide +kernel⟩
abbrev s_is_value : Stmt := top 12
theorem sc_is_value : FnScope ["letters", "thing", "sign"] ["letters", "thing"] (defScope s_is_value) := ⟨rfl, rfl, rfl, by decide +kernel, rfl, by decide +kernel, by decide +kernel⟩
abbrev s_check_letters : Stmt := top 13
theorem sc_check_letters : FnScope ["letters"] ["letters"] (defScope s_check_letters) := ⟨rfl, rfl, rfl, by decide +kernel, rfl, by decide +kernel, by decide +kernel⟩
abbrev s_check_value : Stmt := top 14
theorem sc_check_value : FnScope ["letters", "value"] ["letters", "value"] (defScope s_check_value) := ⟨rfl, rfl, rfl, by decide +kernel, rfl, by decide +kernel, by decide +kernel⟩
abbrev s_Machine_init : Stmt := inClass (top 18) 0
theorem sc_Machine_init : FnScope ["self", "letters", "rows"] ["self", "letters", "rows"] (defScope s_Machine_init) := ⟨rfl, rfl, rfl, by decide +kernel, rfl, by decide +kernel, by decide +kernel⟩
abbrev s_Machine_eq : Stmt := inClass (top 18) 1
theorem sc_Machine_eq : FnScope ["self", "other"] ["self", "other"] (defScope s_Machine_eq) := ⟨rfl, rfl, rfl, by decide +kernel, rfl, by decide +kernel, by decide +kernel⟩
abbrev s_Machine_letters : Stmt := inClass (top 18) 3
theorem sc_Machine_letters : FnScope ["self"] ["self"] (defScope s_Machine_letters) := ⟨rfl, rfl, rfl, by decide +kernel, rfl, by decide +kernel, by decide +kernel⟩
abbrev s_Machine_rows : Stmt := inClass (top 18) 4
theorem sc_Machine_rows : FnScope ["self"] ["self"] (defScope s_Machine_rows) := ⟨rfl, rfl, rfl, by decide +kernel, rfl, by decide +kernel, by decide +kernel⟩
abbrev s_Machine_turn : Stmt := inClass (top 18) 5
theorem sc_Machine_turn : FnScope ["self", "state", "letter"] ["self", "state", "letter"] (defScope s_Machine_turn) := ⟨rfl, rfl, rfl, by decide +kernel, rfl, by decide +kernel, by decide +kernel⟩
abbrev s_Machine_made : Stmt := inClass (top 18) 6
theorem sc_Machine_made : FnScope ["self", "value"] ["self", "value"] (defScope s_Machine_made) := ⟨rfl, rfl, rfl, by decide +kernel, rfl, by decide +kernel, by decide +kernel⟩
abbrev s_Machine__after : Stmt := inClass (top 18) 8
theorem sc_Machine__after : FnScope ["self", "value", "state", "outs", "letter", "out"] ["self", "value"] (defScope s_Machine__after) := ⟨rfl, rfl, rfl, by decide +kernel, rfl, by decide +kernel, by decide +kernel⟩
abbrev s_check_rows : Stmt := top 19
theorem sc_check_rows : FnScope ["letters", "rows", "index", "row"] ["letters", "rows"] (defScope s_check_rows) := ⟨rfl, rfl, rfl, by decide +kernel, rfl, by decide +kernel, by decide +kernel⟩
abbrev s_is_row : Stmt := top 20
theorem sc_is_row : FnScope ["letters", "many", "row", "turn"] ["letters", "many", "row"] (defScope s_is_row) := ⟨rfl, rfl, rfl, by decide +kernel, rfl, by decide +kernel, by decide +kernel⟩
abbrev s_is_turn : Stmt := top 21
theorem sc_is_turn : FnScope ["letters", "many", "turn", "state", "out"] ["letters", "many", "turn"] (defScope s_is_turn) := ⟨rfl, rfl, rfl, by decide +kernel, rfl, by decide +kernel, by decide +kernel⟩
abbrev s_check_machine : Stmt := top 22
theorem sc_check_machine : FnScope ["machine"] ["machine"] (defScope s_check_machine) := ⟨rfl, rfl, rfl, by decide +kernel, rfl, by decide +kernel, by decide +kernel⟩
abbrev s_check_machines : Stmt := top 23
theorem sc_check_machines : FnScope ["one", "other"] ["one", "other"] (defScope s_check_machines) := ⟨rfl, rfl, rfl, by decide +kernel, rfl, by decide +kernel, by decide +kernel⟩
abbrev s_behind : Stmt := top 24
theorem sc_behind : FnScope ["one", "other", "pairs", "rows", "row", "letter", "pair", "out"] ["one", "other"] (defScope s_behind) := ⟨rfl, rfl, rfl, by decide +kernel, rfl, by decide +kernel, by decide +kernel⟩
abbrev s_joined_turn : Stmt := top 25
theorem sc_joined_turn : FnScope ["one", "other", "pair", "letter", "first", "second", "handed", "out"] ["one", "other", "pair", "letter"] (defScope s_joined_turn) := ⟨rfl, rfl, rfl, by decide +kernel, rfl, by decide +kernel, by decide +kernel⟩
abbrev s_copying_row : Stmt := top 26
theorem sc_copying_row : FnScope ["letters", "state", "letter"] ["letters", "state"] (defScope s_copying_row) := ⟨rfl, rfl, rfl, by decide +kernel, rfl, by decide +kernel, by decide +kernel⟩
abbrev s_plain : Stmt := top 27
theorem sc_plain : FnScope ["letters"] ["letters"] (defScope s_plain) := ⟨rfl, rfl, rfl, by decide +kernel, rfl, by decide +kernel, by decide +kernel⟩
abbrev s_cut : Stmt := top 28
theorem sc_cut : FnScope ["letters", "many", "rows", "state"] ["letters", "many"] (defScope s_cut) := ⟨rfl, rfl, rfl, by decide +kernel, rfl, by decide +kernel, by decide +kernel⟩
abbrev s_stripped : Stmt := top 29
theorem sc_stripped : FnScope ["letters", "some", "first", "letter"] ["letters", "some"] (defScope s_stripped) := ⟨rfl, rfl, rfl, by decide +kernel, rfl, by decide +kernel, by decide +kernel⟩
abbrev s_squeezed : Stmt := top 30
theorem sc_squeezed : FnScope ["letters", "some", "rows", "last"] ["letters", "some"] (defScope s_squeezed) := ⟨rfl, rfl, rfl, by decide +kernel, rfl, by decide +kernel, by decide +kernel⟩
abbrev s_copying_turns : Stmt := top 31
theorem sc_copying_turns : FnScope ["letters", "silent", "at", "letter"] ["letters", "silent"] (defScope s_copying_turns) := ⟨rfl, rfl, rfl, by decide +kernel, rfl, by decide +kernel, by decide +kernel⟩
abbrev s_law_number : Stmt := top 33
theorem sc_law_number : FnScope ["script", "index", "cells", "cell", "low", "high", "total", "blend"] ["script", "index"] (defScope s_law_number) := ⟨rfl, rfl, rfl, by decide +kernel, rfl, by decide +kernel, by decide +kernel⟩
abbrev s_law_letters : Stmt := top 34
theorem sc_law_letters : FnScope ["script", "at"] ["script", "at"] (defScope s_law_letters) := ⟨rfl, rfl, rfl, by decide +kernel, rfl, by decide +kernel, by decide +kernel⟩
abbrev s_law_rows : Stmt := top 35
theorem sc_law_rows : FnScope ["script", "at", "letters", "most", "many", "found", "thin", "state", "row", "spot", "letter", "seed", "out"] ["script", "at", "letters", "most"] (defScope s_law_rows) := ⟨rfl, rfl, rfl, by decide +kernel, rfl, by decide +kernel, by decide +kernel⟩
abbrev s_law_value : Stmt := top 36
theorem sc_law_value : FnScope ["script", "at", "letters", "most", "seed", "found", "spot"] ["script", "at", "letters", "most"] (defScope s_law_value) := ⟨rfl, rfl, rfl, by decide +kernel, rfl, by decide +kernel, by decide +kernel⟩
abbrev s_law_turn : Stmt := top 37
theorem sc_law_turn : FnScope ["letters", "rows", "state", "letter"] ["letters", "rows", "state", "letter"] (defScope s_law_turn) := ⟨rfl, rfl, rfl, by decide +kernel, rfl, by decide +kernel, by decide +kernel⟩
abbrev s_law_joined : Stmt := top 39
theorem sc_law_joined : FnScope ["letters", "one", "other", "line", "rows", "mine", "theirs", "row", "letter", "late", "out", "last", "told"] ["letters", "one", "other"] (defScope s_law_joined) := ⟨rfl, rfl, rfl, by decide +kernel, rfl, by decide +kernel, by decide +kernel⟩
abbrev s_law_drawn : Stmt := top 40
theorem sc_law_drawn : FnScope ["script", "at", "letters", "seed", "some"] ["script", "at", "letters"] (defScope s_law_drawn) := ⟨rfl, rfl, rfl, by decide +kernel, rfl, by decide +kernel, by decide +kernel⟩
abbrev s_law : Stmt := top 41
theorem sc_law : FnScope ["script", "letters", "one", "other", "due", "found", "turn", "value", "same", "late"] ["script"] (defScope s_law) := ⟨rfl, rfl, rfl, by decide +kernel, rfl, by decide +kernel, by decide +kernel⟩
/-- a def of the module: where it stands, its name's value, how its arguments are bound -/
structure FF (K : PySem.W.Frag) (mg : Str → Option Value) (x : Str) (st : Stmt) (f : Addr) (fd : FuncData) (ps : List Str) : Prop where
  F : Fun K x x st f fd
  g : mg x = some (.ref f)
  b : Binds K fd ps []
structure FM (K : PySem.W.Frag) (x q : Str) (st : Stmt) (f : Addr) (fd : FuncData) (ps : List Str) : Prop where
  F : Fun K x q st f fd
  b : Binds K fd ps []
abbrev v_SIGNS : V := .str "ABCDEFGHIJKLMNOPQRSTUVWXYZ_abcdefghijklmnopqrstuvwxyz"
abbrev v_MOST_STATES : V := .int 6
abbrev v_MOST_KEPT : V := .int 5
structure Ad where
  a_is_whole : Addr
  d_is_whole : FuncData
  a_is_letters : Addr
  d_is_letters : FuncData
  a_is_value : Addr
  d_is_value : FuncData
  a_check_letters : Addr
  d_check_letters : FuncData
  a_check_value : Addr
  d_check_value : FuncData
  a_Machine_init : Addr
  d_Machine_init : FuncData
  a_Machine_eq : Addr
  d_Machine_eq : FuncData
  a_Machine_letters : Addr
  d_Machine_letters : FuncData
  a_Machine_rows : Addr
  d_Machine_rows : FuncData
  a_Machine_turn : Addr
  d_Machine_turn : FuncData
  a_Machine_made : Addr
  d_Machine_made : FuncData
  a_Machine__after : Addr
  d_Machine__after : FuncData
  a_check_rows : Addr
  d_check_rows : FuncData
  a_is_row : Addr
  d_is_row : FuncData
  a_is_turn : Addr
  d_is_turn : FuncData
  a_check_machine : Addr
  d_check_machine : FuncData
  a_check_machines : Addr
  d_check_machines : FuncData
  a_behind : Addr
  d_behind : FuncData
  a_joined_turn : Addr
  d_joined_turn : FuncData
  a_copying_row : Addr
  d_copying_row : FuncData
  a_plain : Addr
  d_plain : FuncData
  a_cut : Addr
  d_cut : FuncData
  a_stripped : Addr
  d_stripped : FuncData
  a_squeezed : Addr
  d_squeezed : FuncData
  a_copying_turns : Addr
  d_copying_turns : FuncData
  a_law_number : Addr
  d_law_number : FuncData
  a_law_letters : Addr
  d_law_letters : FuncData
  a_law_rows : Addr
  d_law_rows : FuncData
  a_law_value : Addr
  d_law_value : FuncData
  a_law_turn : Addr
  d_law_turn : FuncData
  a_law_joined : Addr
  d_law_joined : FuncData
  a_law_drawn : Addr
  d_law_drawn : FuncData
  a_law : Addr
  d_law : FuncData
  C : Addr
  pr_letters : Addr
  pr_rows : Addr
  X_TooLarge : Addr
  t_SIGNS : Tok
  t_MOST_STATES : Tok
  t_MOST_KEPT : Tok
structure Txt (K : PySem.W.Frag) (mg : Str → Option Value) (A : Ad) : Prop where
  f_is_whole : FF K mg "is_whole" s_is_whole A.a_is_whole A.d_is_whole ["thing"]
  f_is_letters : FF K mg "is_letters" s_is_letters A.a_is_letters A.d_is_letters ["thing"]
  f_is_value : FF K mg "is_value" s_is_value A.a_is_value A.d_is_value ["letters", "thing"]
  f_check_letters : FF K mg "check_letters" s_check_letters A.a_check_letters A.d_check_letters ["letters"]
  f_check_value : FF K mg "check_value" s_check_value A.a_check_value A.d_check_value ["letters", "value"]
  f_Machine_init : FM K "__init__" "Machine.__init__" s_Machine_init A.a_Machine_init A.d_Machine_init ["self", "letters", "rows"]
  f_Machine_eq : FM K "__eq__" "Machine.__eq__" s_Machine_eq A.a_Machine_eq A.d_Machine_eq ["self", "other"]
  f_Machine_letters : FM K "letters" "Machine.letters" s_Machine_letters A.a_Machine_letters A.d_Machine_letters ["self"]
  f_Machine_rows : FM K "rows" "Machine.rows" s_Machine_rows A.a_Machine_rows A.d_Machine_rows ["self"]
  f_Machine_turn : FM K "turn" "Machine.turn" s_Machine_turn A.a_Machine_turn A.d_Machine_turn ["self", "state", "letter"]
  f_Machine_made : FM K "made" "Machine.made" s_Machine_made A.a_Machine_made A.d_Machine_made ["self", "value"]
  f_Machine__after : FM K "_after" "Machine._after" s_Machine__after A.a_Machine__after A.d_Machine__after ["self", "value"]
  f_check_rows : FF K mg "check_rows" s_check_rows A.a_check_rows A.d_check_rows ["letters", "rows"]
  f_is_row : FF K mg "is_row" s_is_row A.a_is_row A.d_is_row ["letters", "many", "row"]
  f_is_turn : FF K mg "is_turn" s_is_turn A.a_is_turn A.d_is_turn ["letters", "many", "turn"]
  f_check_machine : FF K mg "check_machine" s_check_machine A.a_check_machine A.d_check_machine ["machine"]
  f_check_machines : FF K mg "check_machines" s_check_machines A.a_check_machines A.d_check_machines ["one", "other"]
  f_behind : FF K mg "behind" s_behind A.a_behind A.d_behind ["one", "other"]
  f_joined_turn : FF K mg "joined_turn" s_joined_turn A.a_joined_turn A.d_joined_turn ["one", "other", "pair", "letter"]
  f_copying_row : FF K mg "copying_row" s_copying_row A.a_copying_row A.d_copying_row ["letters", "state"]
  f_plain : FF K mg "plain" s_plain A.a_plain A.d_plain ["letters"]
  f_cut : FF K mg "cut" s_cut A.a_cut A.d_cut ["letters", "many"]
  f_stripped : FF K mg "stripped" s_stripped A.a_stripped A.d_stripped ["letters", "some"]
  f_squeezed : FF K mg "squeezed" s_squeezed A.a_squeezed A.d_squeezed ["letters", "some"]
  f_copying_turns : FF K mg "copying_turns" s_copying_turns A.a_copying_turns A.d_copying_turns ["letters", "silent"]
  f_law_number : FF K mg "_law_number" s_law_number A.a_law_number A.d_law_number ["script", "index"]
  f_law_letters : FF K mg "_law_letters" s_law_letters A.a_law_letters A.d_law_letters ["script", "at"]
  f_law_rows : FF K mg "_law_rows" s_law_rows A.a_law_rows A.d_law_rows ["script", "at", "letters", "most"]
  f_law_value : FF K mg "_law_value" s_law_value A.a_law_value A.d_law_value ["script", "at", "letters", "most"]
  f_law_turn : FF K mg "_law_turn" s_law_turn A.a_law_turn A.d_law_turn ["letters", "rows", "state", "letter"]
  f_law_joined : FF K mg "_law_joined" s_law_joined A.a_law_joined A.d_law_joined ["letters", "one", "other"]
  f_law_drawn : FF K mg "_law_drawn" s_law_drawn A.a_law_drawn A.d_law_drawn ["script", "at", "letters"]
  f_law : FF K mg "law" s_law A.a_law A.d_law ["script"]
  cl : Cls K A.C
  mkC : Mk K A.C A.a_Machine_init
  g_Machine : mg "Machine" = some (.ref A.C)
  iA : PySem.W.findIn K (.ref A.C) "__class__" = some (some (.builtin "object.__class__"))
  iN : PySem.W.specialIn K (.builtin "object.__class__") "__get__" = some (some (.builtin "getset_descriptor.__get__"))
  iT : PySem.W.takesIn K (.builtin "object.__class__") = some true
  iM : PySem.W.mroIn K A.C (.type "object") = some true
  no_letters : NoAttr K A.C "_letters"
  no_rows : NoAttr K A.C "_rows"
  m_eq : Meth K A.C "__eq__" A.a_Machine_eq
  p_letters : PropOf K A.C "letters" A.pr_letters A.a_Machine_letters
  p_rows : PropOf K A.C "rows" A.pr_rows A.a_Machine_rows
  m_turn : Meth K A.C "turn" A.a_Machine_turn
  m_made : Meth K A.C "made" A.a_Machine_made
  m__after : Meth K A.C "_after" A.a_Machine__after
  neC : PySem.W.findIn K (.ref A.C) "__ne__" = some (some (.builtin "object.__ne__"))
  xX_TooLarge : PySem.W.excIn K A.X_TooLarge [.type "ValueError", .type "Exception", .type "BaseException", .type "object"] "ValueError.__new__" = true
  gX_TooLarge : mg "TooLarge" = some (.ref A.X_TooLarge)
  kX_TooLarge : PySem.W.keepIn K (.ref A.X_TooLarge) = true
  bX_TooLarge : PySem.W.subIn K (.ref A.X_TooLarge) (.type "BaseException") = some true
  tX_TooLarge : PySem.W.typeIn K (.ref A.X_TooLarge) = some (.type "type")
  iX_TooLarge : PySem.W.isClsIn K A.X_TooLarge = true
  sX_TooLarge : PySem.W.subIn K (.ref A.X_TooLarge) (.ref A.X_TooLarge) = some true
  c_SIGNS : mg "SIGNS" = some (.str "ABCDEFGHIJKLMNOPQRSTUVWXYZ_abcdefghijklmnopqrstuvwxyz" A.t_SIGNS)
  c_MOST_STATES : mg "MOST_STATES" = some (.int 6 A.t_MOST_STATES)
  c_MOST_KEPT : mg "MOST_KEPT" = some (.int 5 A.t_MOST_KEPT)
  n_all : mg "all" = none
  n_bool : mg "bool" = none
  n_enumerate : mg "enumerate" = none
  n_int : mg "int" = none
  n_isinstance : mg "isinstance" = none
  n_len : mg "len" = none
  n_range : mg "range" = none
  n_str : mg "str" = none
  n_sum : mg "sum" = none
  n_super : mg "super" = none
  n_tuple : mg "tuple" = none
theorem all_mk {K : PySem.W.Frag} {h : Heap} {mg : Str → Option Value} {fa C : Addr} (X : K.In h) (G : h.Ns mainGlobals mg) (hfa : mg "law" = some (.ref fa))
    {f1 : Addr} {od1 an1 : Option Addr} {sl1 : Array (Option Value)} {oc1 kV1 dc1 pm1 cd1 ct1 : Value} {f2 : Addr} {od2 an2 : Option Addr} {sl2 : Array (Option Value)} {oc2 kV2 dc2 pm2 cd2 ct2 : Value} {f3 : Addr} {od3 an3 : Option Addr} {sl3 : Array (Option Value)} {oc3 kV3 dc3 pm3 cd3 ct3 : Value} {f4 : Addr} {od4 an4 : Option Addr} {sl4 : Array (Option Value)} {oc4 kV4 dc4 pm4 cd4 ct4 : Value} {f5 : Addr} {od5 an5 : Option Addr} {sl5 : Array (Option Value)} {oc5 kV5 dc5 pm5 cd5 ct5 : Value} {f6 : Addr} {od6 an6 : Option Addr} {sl6 : Array (Option Value)} {oc6 kV6 dc6 pm6 cd6 ct6 : Value} {f7 : Addr} {od7 an7 : Option Addr} {sl7 : Array (Option Value)} {oc7 kV7 dc7 pm7 cd7 ct7 : Value} {f8 : Addr} {od8 an8 : Option Addr} {sl8 : Array (Option Value)} {oc8 kV8 dc8 pm8 cd8 ct8 : Value} {rest8 : List Value} {p8 : Addr} {f9 : Addr} {od9 an9 : Option Addr} {sl9 : Array (Option Value)} {oc9 kV9 dc9 pm9 cd9 ct9 : Value} {rest9 : List Value} {p9 : Addr} {f10 : Addr} {od10 an10 : Option Addr} {sl10 : Array (Option Value)} {oc10 kV10 dc10 pm10 cd10 ct10 : Value} {f11 : Addr} {od11 an11 : Option Addr} {sl11 : Array (Option Value)} {oc11 kV11 dc11 pm11 cd11 ct11 : Value} {f12 : Addr} {od12 an12 : Option Addr} {sl12 : Array (Option Value)} {oc12 kV12 dc12 pm12 cd12 ct12 : Value} {f13 : Addr} {od13 an13 : Option Addr} {sl13 : Array (Option Value)} {oc13 kV13 dc13 pm13 cd13 ct13 : Value} {f14 : Addr} {od14 an14 : Option Addr} {sl14 : Array (Option Value)} {oc14 kV14 dc14 pm14 cd14 ct14 : Value} {f15 : Addr} {od15 an15 : Option Addr} {sl15 : Array (Option Value)} {oc15 kV15 dc15 pm15 cd15 ct15 : Value} {f16 : Addr} {od16 an16 : Option Addr} {sl16 : Array (Option Value)} {oc16 kV16 dc16 pm16 cd16 ct16 : Value} {f17 : Addr} {od17 an17 : Option Addr} {sl17 : Array (Option Value)} {oc17 kV17 dc17 pm17 cd17 ct17 : Value} {f18 : Addr} {od18 an18 : Option Addr} {sl18 : Array (Option Value)} {oc18 kV18 dc18 pm18 cd18 ct18 : Value} {f19 : Addr} {od19 an19 : Option Addr} {sl19 : Array (Option Value)} {oc19 kV19 dc19 pm19 cd19 ct19 : Value} {f20 : Addr} {od20 an20 : Option Addr} {sl20 : Array (Option Value)} {oc20 kV20 dc20 pm20 cd20 ct20 : Value} {f21 : Addr} {od21 an21 : Option Addr} {sl21 : Array (Option Value)} {oc21 kV21 dc21 pm21 cd21 ct21 : Value} {f22 : Addr} {od22 an22 : Option Addr} {sl22 : Array (Option Value)} {oc22 kV22 dc22 pm22 cd22 ct22 : Value} {f23 : Addr} {od23 an23 : Option Addr} {sl23 : Array (Option Value)} {oc23 kV23 dc23 pm23 cd23 ct23 : Value} {f24 : Addr} {od24 an24 : Option Addr} {sl24 : Array (Option Value)} {oc24 kV24 dc24 pm24 cd24 ct24 : Value} {f25 : Addr} {od25 an25 : Option Addr} {sl25 : Array (Option Value)} {oc25 kV25 dc25 pm25 cd25 ct25 : Value} {f26 : Addr} {od26 an26 : Option Addr} {sl26 : Array (Option Value)} {oc26 kV26 dc26 pm26 cd26 ct26 : Value} {f27 : Addr} {od27 an27 : Option Addr} {sl27 : Array (Option Value)} {oc27 kV27 dc27 pm27 cd27 ct27 : Value} {f28 : Addr} {od28 an28 : Option Addr} {sl28 : Array (Option Value)} {oc28 kV28 dc28 pm28 cd28 ct28 : Value} {f29 : Addr} {od29 an29 : Option Addr} {sl29 : Array (Option Value)} {oc29 kV29 dc29 pm29 cd29 ct29 : Value} {f30 : Addr} {od30 an30 : Option Addr} {sl30 : Array (Option Value)} {oc30 kV30 dc30 pm30 cd30 ct30 : Value} {f31 : Addr} {od31 an31 : Option Addr} {sl31 : Array (Option Value)} {oc31 kV31 dc31 pm31 cd31 ct31 : Value} {f32 : Addr} {od32 an32 : Option Addr} {sl32 : Array (Option Value)} {oc32 kV32 dc32 pm32 cd32 ct32 : Value} {f33 : Addr} {od33 an33 : Option Addr} {sl33 : Array (Option Value)} {oc33 kV33 dc33 pm33 cd33 ct33 : Value} {XTooLarge : Addr} {tkSIGNS : Tok} {tkMOST_STATES : Tok} {tkMOST_KEPT : Tok}
    (aC : PySem.W.nsIn K mainGlobals "Machine" = some (some (.ref C)))
    (a1 : PySem.W.nsIn K mainGlobals "is_whole" = some (some (.ref f1)))
    (l1 : K.lookup f1 = some ⟨oc1, od1, .func (PySem.W.fnOf "is_whole" "is_whole" (defArgs s_is_whole) (defBody s_is_whole) (defScope s_is_whole) .none kV1 dc1 pm1 an1 cd1 ct1), sl1⟩) (c1 : PySem.W.codeIn K cd1 "is_whole" = true) (k1 : PySem.W.keepIn K (.ref f1) = true)
    (a2 : PySem.W.nsIn K mainGlobals "is_letters" = some (some (.ref f2)))
    (l2 : K.lookup f2 = some ⟨oc2, od2, .func (PySem.W.fnOf "is_letters" "is_letters" (defArgs s_is_letters) (defBody s_is_letters) (defScope s_is_letters) .none kV2 dc2 pm2 an2 cd2 ct2), sl2⟩) (c2 : PySem.W.codeIn K cd2 "is_letters" = true) (k2 : PySem.W.keepIn K (.ref f2) = true)
    (a3 : PySem.W.nsIn K mainGlobals "is_value" = some (some (.ref f3)))
    (l3 : K.lookup f3 = some ⟨oc3, od3, .func (PySem.W.fnOf "is_value" "is_value" (defArgs s_is_value) (defBody s_is_value) (defScope s_is_value) .none kV3 dc3 pm3 an3 cd3 ct3), sl3⟩) (c3 : PySem.W.codeIn K cd3 "is_value" = true) (k3 : PySem.W.keepIn K (.ref f3) = true)
    (a4 : PySem.W.nsIn K mainGlobals "check_letters" = some (some (.ref f4)))
    (l4 : K.lookup f4 = some ⟨oc4, od4, .func (PySem.W.fnOf "check_letters" "check_letters" (defArgs s_check_letters) (defBody s_check_letters) (defScope s_check_letters) .none kV4 dc4 pm4 an4 cd4 ct4), sl4⟩) (c4 : PySem.W.codeIn K cd4 "check_letters" = true) (k4 : PySem.W.keepIn K (.ref f4) = true)
    (a5 : PySem.W.nsIn K mainGlobals "check_value" = some (some (.ref f5)))
    (l5 : K.lookup f5 = some ⟨oc5, od5, .func (PySem.W.fnOf "check_value" "check_value" (defArgs s_check_value) (defBody s_check_value) (defScope s_check_value) .none kV5 dc5 pm5 an5 cd5 ct5), sl5⟩) (c5 : PySem.W.codeIn K cd5 "check_value" = true) (k5 : PySem.W.keepIn K (.ref f5) = true)
    (a6 : PySem.W.findIn K (.ref C) "__init__" = some (some (.ref f6))) (i6 : PySem.W.isFn K (.ref f6) = true)
    (l6 : K.lookup f6 = some ⟨oc6, od6, .func (PySem.W.fnOf "__init__" "Machine.__init__" (defArgs s_Machine_init) (defBody s_Machine_init) (defScope s_Machine_init) .none kV6 dc6 pm6 an6 cd6 ct6), sl6⟩) (c6 : PySem.W.codeIn K cd6 "Machine.__init__" = true) (k6 : PySem.W.keepIn K (.ref f6) = true)
    (a7 : PySem.W.findIn K (.ref C) "__eq__" = some (some (.ref f7))) (i7 : PySem.W.isFn K (.ref f7) = true)
    (l7 : K.lookup f7 = some ⟨oc7, od7, .func (PySem.W.fnOf "__eq__" "Machine.__eq__" (defArgs s_Machine_eq) (defBody s_Machine_eq) (defScope s_Machine_eq) .none kV7 dc7 pm7 an7 cd7 ct7), sl7⟩) (c7 : PySem.W.codeIn K cd7 "Machine.__eq__" = true) (k7 : PySem.W.keepIn K (.ref f7) = true)
    (a8 : PySem.W.findIn K (.ref C) "letters" = some (some (.ref p8))) (ag8 : PySem.W.specialIn K (.ref p8) "__get__" = some (some (.builtin "property.__get__"))) (at8 : PySem.W.takesIn K (.ref p8) = some true) (ar8 : PySem.W.recIn K p8 "property" = some (.ref f8 :: rest8))
    (l8 : K.lookup f8 = some ⟨oc8, od8, .func (PySem.W.fnOf "letters" "Machine.letters" (defArgs s_Machine_letters) (defBody s_Machine_letters) (defScope s_Machine_letters) .none kV8 dc8 pm8 an8 cd8 ct8), sl8⟩) (c8 : PySem.W.codeIn K cd8 "Machine.letters" = true) (k8 : PySem.W.keepIn K (.ref f8) = true)
    (a9 : PySem.W.findIn K (.ref C) "rows" = some (some (.ref p9))) (ag9 : PySem.W.specialIn K (.ref p9) "__get__" = some (some (.builtin "property.__get__"))) (at9 : PySem.W.takesIn K (.ref p9) = some true) (ar9 : PySem.W.recIn K p9 "property" = some (.ref f9 :: rest9))
    (l9 : K.lookup f9 = some ⟨oc9, od9, .func (PySem.W.fnOf "rows" "Machine.rows" (defArgs s_Machine_rows) (defBody s_Machine_rows) (defScope s_Machine_rows) .none kV9 dc9 pm9 an9 cd9 ct9), sl9⟩) (c9 : PySem.W.codeIn K cd9 "Machine.rows" = true) (k9 : PySem.W.keepIn K (.ref f9) = true)
    (a10 : PySem.W.findIn K (.ref C) "turn" = some (some (.ref f10))) (i10 : PySem.W.isFn K (.ref f10) = true)
    (l10 : K.lookup f10 = some ⟨oc10, od10, .func (PySem.W.fnOf "turn" "Machine.turn" (defArgs s_Machine_turn) (defBody s_Machine_turn) (defScope s_Machine_turn) .none kV10 dc10 pm10 an10 cd10 ct10), sl10⟩) (c10 : PySem.W.codeIn K cd10 "Machine.turn" = true) (k10 : PySem.W.keepIn K (.ref f10) = true)
    (a11 : PySem.W.findIn K (.ref C) "made" = some (some (.ref f11))) (i11 : PySem.W.isFn K (.ref f11) = true)
    (l11 : K.lookup f11 = some ⟨oc11, od11, .func (PySem.W.fnOf "made" "Machine.made" (defArgs s_Machine_made) (defBody s_Machine_made) (defScope s_Machine_made) .none kV11 dc11 pm11 an11 cd11 ct11), sl11⟩) (c11 : PySem.W.codeIn K cd11 "Machine.made" = true) (k11 : PySem.W.keepIn K (.ref f11) = true)
    (a12 : PySem.W.findIn K (.ref C) "_after" = some (some (.ref f12))) (i12 : PySem.W.isFn K (.ref f12) = true)
    (l12 : K.lookup f12 = some ⟨oc12, od12, .func (PySem.W.fnOf "_after" "Machine._after" (defArgs s_Machine__after) (defBody s_Machine__after) (defScope s_Machine__after) .none kV12 dc12 pm12 an12 cd12 ct12), sl12⟩) (c12 : PySem.W.codeIn K cd12 "Machine._after" = true) (k12 : PySem.W.keepIn K (.ref f12) = true)
    (a13 : PySem.W.nsIn K mainGlobals "check_rows" = some (some (.ref f13)))
    (l13 : K.lookup f13 = some ⟨oc13, od13, .func (PySem.W.fnOf "check_rows" "check_rows" (defArgs s_check_rows) (defBody s_check_rows) (defScope s_check_rows) .none kV13 dc13 pm13 an13 cd13 ct13), sl13⟩) (c13 : PySem.W.codeIn K cd13 "check_rows" = true) (k13 : PySem.W.keepIn K (.ref f13) = true)
    (a14 : PySem.W.nsIn K mainGlobals "is_row" = some (some (.ref f14)))
    (l14 : K.lookup f14 = some ⟨oc14, od14, .func (PySem.W.fnOf "is_row" "is_row" (defArgs s_is_row) (defBody s_is_row) (defScope s_is_row) .none kV14 dc14 pm14 an14 cd14 ct14), sl14⟩) (c14 : PySem.W.codeIn K cd14 "is_row" = true) (k14 : PySem.W.keepIn K (.ref f14) = true)
    (a15 : PySem.W.nsIn K mainGlobals "is_turn" = some (some (.ref f15)))
    (l15 : K.lookup f15 = some ⟨oc15, od15, .func (PySem.W.fnOf "is_turn" "is_turn" (defArgs s_is_turn) (defBody s_is_turn) (defScope s_is_turn) .none kV15 dc15 pm15 an15 cd15 ct15), sl15⟩) (c15 : PySem.W.codeIn K cd15 "is_turn" = true) (k15 : PySem.W.keepIn K (.ref f15) = true)
    (a16 : PySem.W.nsIn K mainGlobals "check_machine" = some (some (.ref f16)))
    (l16 : K.lookup f16 = some ⟨oc16, od16, .func (PySem.W.fnOf "check_machine" "check_machine" (defArgs s_check_machine) (defBody s_check_machine) (defScope s_check_machine) .none kV16 dc16 pm16 an16 cd16 ct16), sl16⟩) (c16 : PySem.W.codeIn K cd16 "check_machine" = true) (k16 : PySem.W.keepIn K (.ref f16) = true)
    (a17 : PySem.W.nsIn K mainGlobals "check_machines" = some (some (.ref f17)))
    (l17 : K.lookup f17 = some ⟨oc17, od17, .func (PySem.W.fnOf "check_machines" "check_machines" (defArgs s_check_machines) (defBody s_check_machines) (defScope s_check_machines) .none kV17 dc17 pm17 an17 cd17 ct17), sl17⟩) (c17 : PySem.W.codeIn K cd17 "check_machines" = true) (k17 : PySem.W.keepIn K (.ref f17) = true)
    (a18 : PySem.W.nsIn K mainGlobals "behind" = some (some (.ref f18)))
    (l18 : K.lookup f18 = some ⟨oc18, od18, .func (PySem.W.fnOf "behind" "behind" (defArgs s_behind) (defBody s_behind) (defScope s_behind) .none kV18 dc18 pm18 an18 cd18 ct18), sl18⟩) (c18 : PySem.W.codeIn K cd18 "behind" = true) (k18 : PySem.W.keepIn K (.ref f18) = true)
    (a19 : PySem.W.nsIn K mainGlobals "joined_turn" = some (some (.ref f19)))
    (l19 : K.lookup f19 = some ⟨oc19, od19, .func (PySem.W.fnOf "joined_turn" "joined_turn" (defArgs s_joined_turn) (defBody s_joined_turn) (defScope s_joined_turn) .none kV19 dc19 pm19 an19 cd19 ct19), sl19⟩) (c19 : PySem.W.codeIn K cd19 "joined_turn" = true) (k19 : PySem.W.keepIn K (.ref f19) = true)
    (a20 : PySem.W.nsIn K mainGlobals "copying_row" = some (some (.ref f20)))
    (l20 : K.lookup f20 = some ⟨oc20, od20, .func (PySem.W.fnOf "copying_row" "copying_row" (defArgs s_copying_row) (defBody s_copying_row) (defScope s_copying_row) .none kV20 dc20 pm20 an20 cd20 ct20), sl20⟩) (c20 : PySem.W.codeIn K cd20 "copying_row" = true) (k20 : PySem.W.keepIn K (.ref f20) = true)
    (a21 : PySem.W.nsIn K mainGlobals "plain" = some (some (.ref f21)))
    (l21 : K.lookup f21 = some ⟨oc21, od21, .func (PySem.W.fnOf "plain" "plain" (defArgs s_plain) (defBody s_plain) (defScope s_plain) .none kV21 dc21 pm21 an21 cd21 ct21), sl21⟩) (c21 : PySem.W.codeIn K cd21 "plain" = true) (k21 : PySem.W.keepIn K (.ref f21) = true)
    (a22 : PySem.W.nsIn K mainGlobals "cut" = some (some (.ref f22)))
    (l22 : K.lookup f22 = some ⟨oc22, od22, .func (PySem.W.fnOf "cut" "cut" (defArgs s_cut) (defBody s_cut) (defScope s_cut) .none kV22 dc22 pm22 an22 cd22 ct22), sl22⟩) (c22 : PySem.W.codeIn K cd22 "cut" = true) (k22 : PySem.W.keepIn K (.ref f22) = true)
    (a23 : PySem.W.nsIn K mainGlobals "stripped" = some (some (.ref f23)))
    (l23 : K.lookup f23 = some ⟨oc23, od23, .func (PySem.W.fnOf "stripped" "stripped" (defArgs s_stripped) (defBody s_stripped) (defScope s_stripped) .none kV23 dc23 pm23 an23 cd23 ct23), sl23⟩) (c23 : PySem.W.codeIn K cd23 "stripped" = true) (k23 : PySem.W.keepIn K (.ref f23) = true)
    (a24 : PySem.W.nsIn K mainGlobals "squeezed" = some (some (.ref f24)))
    (l24 : K.lookup f24 = some ⟨oc24, od24, .func (PySem.W.fnOf "squeezed" "squeezed" (defArgs s_squeezed) (defBody s_squeezed) (defScope s_squeezed) .none kV24 dc24 pm24 an24 cd24 ct24), sl24⟩) (c24 : PySem.W.codeIn K cd24 "squeezed" = true) (k24 : PySem.W.keepIn K (.ref f24) = true)
    (a25 : PySem.W.nsIn K mainGlobals "copying_turns" = some (some (.ref f25)))
    (l25 : K.lookup f25 = some ⟨oc25, od25, .func (PySem.W.fnOf "copying_turns" "copying_turns" (defArgs s_copying_turns) (defBody s_copying_turns) (defScope s_copying_turns) .none kV25 dc25 pm25 an25 cd25 ct25), sl25⟩) (c25 : PySem.W.codeIn K cd25 "copying_turns" = true) (k25 : PySem.W.keepIn K (.ref f25) = true)
    (a26 : PySem.W.nsIn K mainGlobals "_law_number" = some (some (.ref f26)))
    (l26 : K.lookup f26 = some ⟨oc26, od26, .func (PySem.W.fnOf "_law_number" "_law_number" (defArgs s_law_number) (defBody s_law_number) (defScope s_law_number) .none kV26 dc26 pm26 an26 cd26 ct26), sl26⟩) (c26 : PySem.W.codeIn K cd26 "_law_number" = true) (k26 : PySem.W.keepIn K (.ref f26) = true)
    (a27 : PySem.W.nsIn K mainGlobals "_law_letters" = some (some (.ref f27)))
    (l27 : K.lookup f27 = some ⟨oc27, od27, .func (PySem.W.fnOf "_law_letters" "_law_letters" (defArgs s_law_letters) (defBody s_law_letters) (defScope s_law_letters) .none kV27 dc27 pm27 an27 cd27 ct27), sl27⟩) (c27 : PySem.W.codeIn K cd27 "_law_letters" = true) (k27 : PySem.W.keepIn K (.ref f27) = true)
    (a28 : PySem.W.nsIn K mainGlobals "_law_rows" = some (some (.ref f28)))
    (l28 : K.lookup f28 = some ⟨oc28, od28, .func (PySem.W.fnOf "_law_rows" "_law_rows" (defArgs s_law_rows) (defBody s_law_rows) (defScope s_law_rows) .none kV28 dc28 pm28 an28 cd28 ct28), sl28⟩) (c28 : PySem.W.codeIn K cd28 "_law_rows" = true) (k28 : PySem.W.keepIn K (.ref f28) = true)
    (a29 : PySem.W.nsIn K mainGlobals "_law_value" = some (some (.ref f29)))
    (l29 : K.lookup f29 = some ⟨oc29, od29, .func (PySem.W.fnOf "_law_value" "_law_value" (defArgs s_law_value) (defBody s_law_value) (defScope s_law_value) .none kV29 dc29 pm29 an29 cd29 ct29), sl29⟩) (c29 : PySem.W.codeIn K cd29 "_law_value" = true) (k29 : PySem.W.keepIn K (.ref f29) = true)
    (a30 : PySem.W.nsIn K mainGlobals "_law_turn" = some (some (.ref f30)))
    (l30 : K.lookup f30 = some ⟨oc30, od30, .func (PySem.W.fnOf "_law_turn" "_law_turn" (defArgs s_law_turn) (defBody s_law_turn) (defScope s_law_turn) .none kV30 dc30 pm30 an30 cd30 ct30), sl30⟩) (c30 : PySem.W.codeIn K cd30 "_law_turn" = true) (k30 : PySem.W.keepIn K (.ref f30) = true)
    (a31 : PySem.W.nsIn K mainGlobals "_law_joined" = some (some (.ref f31)))
    (l31 : K.lookup f31 = some ⟨oc31, od31, .func (PySem.W.fnOf "_law_joined" "_law_joined" (defArgs s_law_joined) (defBody s_law_joined) (defScope s_law_joined) .none kV31 dc31 pm31 an31 cd31 ct31), sl31⟩) (c31 : PySem.W.codeIn K cd31 "_law_joined" = true) (k31 : PySem.W.keepIn K (.ref f31) = true)
    (a32 : PySem.W.nsIn K mainGlobals "_law_drawn" = some (some (.ref f32)))
    (l32 : K.lookup f32 = some ⟨oc32, od32, .func (PySem.W.fnOf "_law_drawn" "_law_drawn" (defArgs s_law_drawn) (defBody s_law_drawn) (defScope s_law_drawn) .none kV32 dc32 pm32 an32 cd32 ct32), sl32⟩) (c32 : PySem.W.codeIn K cd32 "_law_drawn" = true) (k32 : PySem.W.keepIn K (.ref f32) = true)
    (a33 : PySem.W.nsIn K mainGlobals "law" = some (some (.ref f33)))
    (l33 : K.lookup f33 = some ⟨oc33, od33, .func (PySem.W.fnOf "law" "law" (defArgs s_law) (defBody s_law) (defScope s_law) .none kV33 dc33 pm33 an33 cd33 ct33), sl33⟩) (c33 : PySem.W.codeIn K cd33 "law" = true) (k33 : PySem.W.keepIn K (.ref f33) = true)
    (pg : PySem.W.plainGet K C Str.empty = true) (hd : PySem.W.hasDictIn K C = true) (po : PySem.W.plainOver K C = true) (sa : PySem.W.findIn K (.ref C) "__setattr__" = some (some (.builtin "object.__setattr__"))) (mk : PySem.W.makesIn K C = true) (kc : PySem.W.keepIn K (.ref C) = true) (iA : PySem.W.findIn K (.ref C) "__class__" = some (some (.builtin "object.__class__"))) (iN : PySem.W.specialIn K (.builtin "object.__class__") "__get__" = some (some (.builtin "getset_descriptor.__get__"))) (iT : PySem.W.takesIn K (.builtin "object.__class__") = some true) (iM : PySem.W.mroIn K C (.type "object") = some true) (ne : PySem.W.findIn K (.ref C) "__ne__" = some (some (.builtin "object.__ne__")))
    (na0 : PySem.W.findIn K (.ref C) "_letters" = some none)
    (na1 : PySem.W.findIn K (.ref C) "_rows" = some none)
    (xaTooLarge : PySem.W.nsIn K mainGlobals "TooLarge" = some (some (.ref XTooLarge))) (xxTooLarge : PySem.W.excIn K XTooLarge [.type "ValueError", .type "Exception", .type "BaseException", .type "object"] "ValueError.__new__" = true) (xkTooLarge : PySem.W.keepIn K (.ref XTooLarge) = true) (xbTooLarge : PySem.W.subIn K (.ref XTooLarge) (.type "BaseException") = some true) (xtTooLarge : PySem.W.typeIn K (.ref XTooLarge) = some (.type "type")) (xiTooLarge : PySem.W.isClsIn K XTooLarge = true) (xsTooLarge : PySem.W.subIn K (.ref XTooLarge) (.ref XTooLarge) = some true)
    (ccSIGNS : PySem.W.nsIn K mainGlobals "SIGNS" = some (some (.str "ABCDEFGHIJKLMNOPQRSTUVWXYZ_abcdefghijklmnopqrstuvwxyz" tkSIGNS)))
    (ccMOST_STATES : PySem.W.nsIn K mainGlobals "MOST_STATES" = some (some (.int 6 tkMOST_STATES)))
    (ccMOST_KEPT : PySem.W.nsIn K mainGlobals "MOST_KEPT" = some (some (.int 5 tkMOST_KEPT)))
    (zall : PySem.W.nsIn K mainGlobals "all" = some none)
    (zbool : PySem.W.nsIn K mainGlobals "bool" = some none)
    (zenumerate : PySem.W.nsIn K mainGlobals "enumerate" = some none)
    (zint : PySem.W.nsIn K mainGlobals "int" = some none)
    (zisinstance : PySem.W.nsIn K mainGlobals "isinstance" = some none)
    (zlen : PySem.W.nsIn K mainGlobals "len" = some none)
    (zrange : PySem.W.nsIn K mainGlobals "range" = some none)
    (zstr : PySem.W.nsIn K mainGlobals "str" = some none)
    (zsum : PySem.W.nsIn K mainGlobals "sum" = some none)
    (zsuper : PySem.W.nsIn K mainGlobals "super" = some none)
    (ztuple : PySem.W.nsIn K mainGlobals "tuple" = some none)
    : ∃ A : Ad, Txt K mg A ∧ A.a_law = fa := by
  have e := hfa.symm.trans (PySem.W.mg_of X G a33)
  cases e
  exact ⟨{
    a_is_whole := f1
    d_is_whole := PySem.W.fnOf "is_whole" "is_whole" (defArgs s_is_whole) (defBody s_is_whole) (defScope s_is_whole) .none kV1 dc1 pm1 an1 cd1 ct1
    a_is_letters := f2
    d_is_letters := PySem.W.fnOf "is_letters" "is_letters" (defArgs s_is_letters) (defBody s_is_letters) (defScope s_is_letters) .none kV2 dc2 pm2 an2 cd2 ct2
    a_is_value := f3
    d_is_value := PySem.W.fnOf "is_value" "is_value" (defArgs s_is_value) (defBody s_is_value) (defScope s_is_value) .none kV3 dc3 pm3 an3 cd3 ct3
    a_check_letters := f4
    d_check_letters := PySem.W.fnOf "check_letters" "check_letters" (defArgs s_check_letters) (defBody s_check_letters) (defScope s_check_letters) .none kV4 dc4 pm4 an4 cd4 ct4
    a_check_value := f5
    d_check_value := PySem.W.fnOf "check_value" "check_value" (defArgs s_check_value) (defBody s_check_value) (defScope s_check_value) .none kV5 dc5 pm5 an5 cd5 ct5
    a_Machine_init := f6
    d_Machine_init := PySem.W.fnOf "__init__" "Machine.__init__" (defArgs s_Machine_init) (defBody s_Machine_init) (defScope s_Machine_init) .none kV6 dc6 pm6 an6 cd6 ct6
    a_Machine_eq := f7
    d_Machine_eq := PySem.W.fnOf "__eq__" "Machine.__eq__" (defArgs s_Machine_eq) (defBody s_Machine_eq) (defScope s_Machine_eq) .none kV7 dc7 pm7 an7 cd7 ct7
    a_Machine_letters := f8
    d_Machine_letters := PySem.W.fnOf "letters" "Machine.letters" (defArgs s_Machine_letters) (defBody s_Machine_letters) (defScope s_Machine_letters) .none kV8 dc8 pm8 an8 cd8 ct8
    a_Machine_rows := f9
    d_Machine_rows := PySem.W.fnOf "rows" "Machine.rows" (defArgs s_Machine_rows) (defBody s_Machine_rows) (defScope s_Machine_rows) .none kV9 dc9 pm9 an9 cd9 ct9
    a_Machine_turn := f10
    d_Machine_turn := PySem.W.fnOf "turn" "Machine.turn" (defArgs s_Machine_turn) (defBody s_Machine_turn) (defScope s_Machine_turn) .none kV10 dc10 pm10 an10 cd10 ct10
    a_Machine_made := f11
    d_Machine_made := PySem.W.fnOf "made" "Machine.made" (defArgs s_Machine_made) (defBody s_Machine_made) (defScope s_Machine_made) .none kV11 dc11 pm11 an11 cd11 ct11
    a_Machine__after := f12
    d_Machine__after := PySem.W.fnOf "_after" "Machine._after" (defArgs s_Machine__after) (defBody s_Machine__after) (defScope s_Machine__after) .none kV12 dc12 pm12 an12 cd12 ct12
    a_check_rows := f13
    d_check_rows := PySem.W.fnOf "check_rows" "check_rows" (defArgs s_check_rows) (defBody s_check_rows) (defScope s_check_rows) .none kV13 dc13 pm13 an13 cd13 ct13
    a_is_row := f14
    d_is_row := PySem.W.fnOf "is_row" "is_row" (defArgs s_is_row) (defBody s_is_row) (defScope s_is_row) .none kV14 dc14 pm14 an14 cd14 ct14
    a_is_turn := f15
    d_is_turn := PySem.W.fnOf "is_turn" "is_turn" (defArgs s_is_turn) (defBody s_is_turn) (defScope s_is_turn) .none kV15 dc15 pm15 an15 cd15 ct15
    a_check_machine := f16
    d_check_machine := PySem.W.fnOf "check_machine" "check_machine" (defArgs s_check_machine) (defBody s_check_machine) (defScope s_check_machine) .none kV16 dc16 pm16 an16 cd16 ct16
    a_check_machines := f17
    d_check_machines := PySem.W.fnOf "check_machines" "check_machines" (defArgs s_check_machines) (defBody s_check_machines) (defScope s_check_machines) .none kV17 dc17 pm17 an17 cd17 ct17
    a_behind := f18
    d_behind := PySem.W.fnOf "behind" "behind" (defArgs s_behind) (defBody s_behind) (defScope s_behind) .none kV18 dc18 pm18 an18 cd18 ct18
    a_joined_turn := f19
    d_joined_turn := PySem.W.fnOf "joined_turn" "joined_turn" (defArgs s_joined_turn) (defBody s_joined_turn) (defScope s_joined_turn) .none kV19 dc19 pm19 an19 cd19 ct19
    a_copying_row := f20
    d_copying_row := PySem.W.fnOf "copying_row" "copying_row" (defArgs s_copying_row) (defBody s_copying_row) (defScope s_copying_row) .none kV20 dc20 pm20 an20 cd20 ct20
    a_plain := f21
    d_plain := PySem.W.fnOf "plain" "plain" (defArgs s_plain) (defBody s_plain) (defScope s_plain) .none kV21 dc21 pm21 an21 cd21 ct21
    a_cut := f22
    d_cut := PySem.W.fnOf "cut" "cut" (defArgs s_cut) (defBody s_cut) (defScope s_cut) .none kV22 dc22 pm22 an22 cd22 ct22
    a_stripped := f23
    d_stripped := PySem.W.fnOf "stripped" "stripped" (defArgs s_stripped) (defBody s_stripped) (defScope s_stripped) .none kV23 dc23 pm23 an23 cd23 ct23
    a_squeezed := f24
    d_squeezed := PySem.W.fnOf "squeezed" "squeezed" (defArgs s_squeezed) (defBody s_squeezed) (defScope s_squeezed) .none kV24 dc24 pm24 an24 cd24 ct24
    a_copying_turns := f25
    d_copying_turns := PySem.W.fnOf "copying_turns" "copying_turns" (defArgs s_copying_turns) (defBody s_copying_turns) (defScope s_copying_turns) .none kV25 dc25 pm25 an25 cd25 ct25
    a_law_number := f26
    d_law_number := PySem.W.fnOf "_law_number" "_law_number" (defArgs s_law_number) (defBody s_law_number) (defScope s_law_number) .none kV26 dc26 pm26 an26 cd26 ct26
    a_law_letters := f27
    d_law_letters := PySem.W.fnOf "_law_letters" "_law_letters" (defArgs s_law_letters) (defBody s_law_letters) (defScope s_law_letters) .none kV27 dc27 pm27 an27 cd27 ct27
    a_law_rows := f28
    d_law_rows := PySem.W.fnOf "_law_rows" "_law_rows" (defArgs s_law_rows) (defBody s_law_rows) (defScope s_law_rows) .none kV28 dc28 pm28 an28 cd28 ct28
    a_law_value := f29
    d_law_value := PySem.W.fnOf "_law_value" "_law_value" (defArgs s_law_value) (defBody s_law_value) (defScope s_law_value) .none kV29 dc29 pm29 an29 cd29 ct29
    a_law_turn := f30
    d_law_turn := PySem.W.fnOf "_law_turn" "_law_turn" (defArgs s_law_turn) (defBody s_law_turn) (defScope s_law_turn) .none kV30 dc30 pm30 an30 cd30 ct30
    a_law_joined := f31
    d_law_joined := PySem.W.fnOf "_law_joined" "_law_joined" (defArgs s_law_joined) (defBody s_law_joined) (defScope s_law_joined) .none kV31 dc31 pm31 an31 cd31 ct31
    a_law_drawn := f32
    d_law_drawn := PySem.W.fnOf "_law_drawn" "_law_drawn" (defArgs s_law_drawn) (defBody s_law_drawn) (defScope s_law_drawn) .none kV32 dc32 pm32 an32 cd32 ct32
    a_law := fa
    d_law := PySem.W.fnOf "law" "law" (defArgs s_law) (defBody s_law) (defScope s_law) .none kV33 dc33 pm33 an33 cd33 ct33
    C := C
    pr_letters := p8
    pr_rows := p9
    X_TooLarge := XTooLarge
    t_SIGNS := tkSIGNS
    t_MOST_STATES := tkMOST_STATES
    t_MOST_KEPT := tkMOST_KEPT },
   {
    f_is_whole := ⟨fun_mk (st := s_is_whole) l1 c1 k1, PySem.W.mg_of X G a1, (fun_mk (st := s_is_whole) l1 c1 k1).binds (ps := ["thing"]) fun _ _ _ _ _ _ us hl => match us, hl with | [_], _ => rfl⟩
    f_is_letters := ⟨fun_mk (st := s_is_letters) l2 c2 k2, PySem.W.mg_of X G a2, (fun_mk (st := s_is_letters) l2 c2 k2).binds (ps := ["thing"]) fun _ _ _ _ _ _ us hl => match us, hl with | [_], _ => rfl⟩
    f_is_value := ⟨fun_mk (st := s_is_value) l3 c3 k3, PySem.W.mg_of X G a3, (fun_mk (st := s_is_value) l3 c3 k3).binds (ps := ["letters", "thing"]) fun _ _ _ _ _ _ us hl => match us, hl with | [_, _], _ => rfl⟩
    f_check_letters := ⟨fun_mk (st := s_check_letters) l4 c4 k4, PySem.W.mg_of X G a4, (fun_mk (st := s_check_letters) l4 c4 k4).binds (ps := ["letters"]) fun _ _ _ _ _ _ us hl => match us, hl with | [_], _ => rfl⟩
    f_check_value := ⟨fun_mk (st := s_check_value) l5 c5 k5, PySem.W.mg_of X G a5, (fun_mk (st := s_check_value) l5 c5 k5).binds (ps := ["letters", "value"]) fun _ _ _ _ _ _ us hl => match us, hl with | [_, _], _ => rfl⟩
    f_Machine_init := ⟨fun_mk (st := s_Machine_init) l6 c6 k6, (fun_mk (st := s_Machine_init) l6 c6 k6).binds (ps := ["self", "letters", "rows"]) fun _ _ _ _ _ _ us hl => match us, hl with | [_, _, _], _ => rfl⟩
    f_Machine_eq := ⟨fun_mk (st := s_Machine_eq) l7 c7 k7, (fun_mk (st := s_Machine_eq) l7 c7 k7).binds (ps := ["self", "other"]) fun _ _ _ _ _ _ us hl => match us, hl with | [_, _], _ => rfl⟩
    f_Machine_letters := ⟨fun_mk (st := s_Machine_letters) l8 c8 k8, (fun_mk (st := s_Machine_letters) l8 c8 k8).binds (ps := ["self"]) fun _ _ _ _ _ _ us hl => match us, hl with | [_], _ => rfl⟩
    f_Machine_rows := ⟨fun_mk (st := s_Machine_rows) l9 c9 k9, (fun_mk (st := s_Machine_rows) l9 c9 k9).binds (ps := ["self"]) fun _ _ _ _ _ _ us hl => match us, hl with | [_], _ => rfl⟩
    f_Machine_turn := ⟨fun_mk (st := s_Machine_turn) l10 c10 k10, (fun_mk (st := s_Machine_turn) l10 c10 k10).binds (ps := ["self", "state", "letter"]) fun _ _ _ _ _ _ us hl => match us, hl with | [_, _, _], _ => rfl⟩
    f_Machine_made := ⟨fun_mk (st := s_Machine_made) l11 c11 k11, (fun_mk (st := s_Machine_made) l11 c11 k11).binds (ps := ["self", "value"]) fun _ _ _ _ _ _ us hl => match us, hl with | [_, _], _ => rfl⟩
    f_Machine__after := ⟨fun_mk (st := s_Machine__after) l12 c12 k12, (fun_mk (st := s_Machine__after) l12 c12 k12).binds (ps := ["self", "value"]) fun _ _ _ _ _ _ us hl => match us, hl with | [_, _], _ => rfl⟩
    f_check_rows := ⟨fun_mk (st := s_check_rows) l13 c13 k13, PySem.W.mg_of X G a13, (fun_mk (st := s_check_rows) l13 c13 k13).binds (ps := ["letters", "rows"]) fun _ _ _ _ _ _ us hl => match us, hl with | [_, _], _ => rfl⟩
    f_is_row := ⟨fun_mk (st := s_is_row) l14 c14 k14, PySem.W.mg_of X G a14, (fun_mk (st := s_is_row) l14 c14 k14).binds (ps := ["letters", "many", "row"]) fun _ _ _ _ _ _ us hl => match us, hl with | [_, _, _], _ => rfl⟩
    f_is_turn := ⟨fun_mk (st := s_is_turn) l15 c15 k15, PySem.W.mg_of X G a15, (fun_mk (st := s_is_turn) l15 c15 k15).binds (ps := ["letters", "many", "turn"]) fun _ _ _ _ _ _ us hl => match us, hl with | [_, _, _], _ => rfl⟩
    f_check_machine := ⟨fun_mk (st := s_check_machine) l16 c16 k16, PySem.W.mg_of X G a16, (fun_mk (st := s_check_machine) l16 c16 k16).binds (ps := ["machine"]) fun _ _ _ _ _ _ us hl => match us, hl with | [_], _ => rfl⟩
    f_check_machines := ⟨fun_mk (st := s_check_machines) l17 c17 k17, PySem.W.mg_of X G a17, (fun_mk (st := s_check_machines) l17 c17 k17).binds (ps := ["one", "other"]) fun _ _ _ _ _ _ us hl => match us, hl with | [_, _], _ => rfl⟩
    f_behind := ⟨fun_mk (st := s_behind) l18 c18 k18, PySem.W.mg_of X G a18, (fun_mk (st := s_behind) l18 c18 k18).binds (ps := ["one", "other"]) fun _ _ _ _ _ _ us hl => match us, hl with | [_, _], _ => rfl⟩
    f_joined_turn := ⟨fun_mk (st := s_joined_turn) l19 c19 k19, PySem.W.mg_of X G a19, (fun_mk (st := s_joined_turn) l19 c19 k19).binds (ps := ["one", "other", "pair", "letter"]) fun _ _ _ _ _ _ us hl => match us, hl with | [_, _, _, _], _ => rfl⟩
    f_copying_row := ⟨fun_mk (st := s_copying_row) l20 c20 k20, PySem.W.mg_of X G a20, (fun_mk (st := s_copying_row) l20 c20 k20).binds (ps := ["letters", "state"]) fun _ _ _ _ _ _ us hl => match us, hl with | [_, _], _ => rfl⟩
    f_plain := ⟨fun_mk (st := s_plain) l21 c21 k21, PySem.W.mg_of X G a21, (fun_mk (st := s_plain) l21 c21 k21).binds (ps := ["letters"]) fun _ _ _ _ _ _ us hl => match us, hl with | [_], _ => rfl⟩
    f_cut := ⟨fun_mk (st := s_cut) l22 c22 k22, PySem.W.mg_of X G a22, (fun_mk (st := s_cut) l22 c22 k22).binds (ps := ["letters", "many"]) fun _ _ _ _ _ _ us hl => match us, hl with | [_, _], _ => rfl⟩
    f_stripped := ⟨fun_mk (st := s_stripped) l23 c23 k23, PySem.W.mg_of X G a23, (fun_mk (st := s_stripped) l23 c23 k23).binds (ps := ["letters", "some"]) fun _ _ _ _ _ _ us hl => match us, hl with | [_, _], _ => rfl⟩
    f_squeezed := ⟨fun_mk (st := s_squeezed) l24 c24 k24, PySem.W.mg_of X G a24, (fun_mk (st := s_squeezed) l24 c24 k24).binds (ps := ["letters", "some"]) fun _ _ _ _ _ _ us hl => match us, hl with | [_, _], _ => rfl⟩
    f_copying_turns := ⟨fun_mk (st := s_copying_turns) l25 c25 k25, PySem.W.mg_of X G a25, (fun_mk (st := s_copying_turns) l25 c25 k25).binds (ps := ["letters", "silent"]) fun _ _ _ _ _ _ us hl => match us, hl with | [_, _], _ => rfl⟩
    f_law_number := ⟨fun_mk (st := s_law_number) l26 c26 k26, PySem.W.mg_of X G a26, (fun_mk (st := s_law_number) l26 c26 k26).binds (ps := ["script", "index"]) fun _ _ _ _ _ _ us hl => match us, hl with | [_, _], _ => rfl⟩
    f_law_letters := ⟨fun_mk (st := s_law_letters) l27 c27 k27, PySem.W.mg_of X G a27, (fun_mk (st := s_law_letters) l27 c27 k27).binds (ps := ["script", "at"]) fun _ _ _ _ _ _ us hl => match us, hl with | [_, _], _ => rfl⟩
    f_law_rows := ⟨fun_mk (st := s_law_rows) l28 c28 k28, PySem.W.mg_of X G a28, (fun_mk (st := s_law_rows) l28 c28 k28).binds (ps := ["script", "at", "letters", "most"]) fun _ _ _ _ _ _ us hl => match us, hl with | [_, _, _, _], _ => rfl⟩
    f_law_value := ⟨fun_mk (st := s_law_value) l29 c29 k29, PySem.W.mg_of X G a29, (fun_mk (st := s_law_value) l29 c29 k29).binds (ps := ["script", "at", "letters", "most"]) fun _ _ _ _ _ _ us hl => match us, hl with | [_, _, _, _], _ => rfl⟩
    f_law_turn := ⟨fun_mk (st := s_law_turn) l30 c30 k30, PySem.W.mg_of X G a30, (fun_mk (st := s_law_turn) l30 c30 k30).binds (ps := ["letters", "rows", "state", "letter"]) fun _ _ _ _ _ _ us hl => match us, hl with | [_, _, _, _], _ => rfl⟩
    f_law_joined := ⟨fun_mk (st := s_law_joined) l31 c31 k31, PySem.W.mg_of X G a31, (fun_mk (st := s_law_joined) l31 c31 k31).binds (ps := ["letters", "one", "other"]) fun _ _ _ _ _ _ us hl => match us, hl with | [_, _, _], _ => rfl⟩
    f_law_drawn := ⟨fun_mk (st := s_law_drawn) l32 c32 k32, PySem.W.mg_of X G a32, (fun_mk (st := s_law_drawn) l32 c32 k32).binds (ps := ["script", "at", "letters"]) fun _ _ _ _ _ _ us hl => match us, hl with | [_, _, _], _ => rfl⟩
    f_law := ⟨fun_mk (st := s_law) l33 c33 k33, PySem.W.mg_of X G a33, (fun_mk (st := s_law) l33 c33 k33).binds (ps := ["script"]) fun _ _ _ _ _ _ us hl => match us, hl with | [_], _ => rfl⟩
    cl := ⟨pg, hd, po, sa⟩
    mkC := ⟨mk, a6, i6, kc⟩
    g_Machine := PySem.W.mg_of X G aC
    iA := iA
    iN := iN
    iT := iT
    iM := iM
    neC := ne
    no_letters := na0
    no_rows := na1
    m_eq := ⟨a7, i7, k7⟩
    p_letters := ⟨a8, ag8, at8, _, ar8⟩
    p_rows := ⟨a9, ag9, at9, _, ar9⟩
    m_turn := ⟨a10, i10, k10⟩
    m_made := ⟨a11, i11, k11⟩
    m__after := ⟨a12, i12, k12⟩
    xX_TooLarge := xxTooLarge
    gX_TooLarge := PySem.W.mg_of X G xaTooLarge
    kX_TooLarge := xkTooLarge
    bX_TooLarge := xbTooLarge
    tX_TooLarge := xtTooLarge
    iX_TooLarge := xiTooLarge
    sX_TooLarge := xsTooLarge
    c_SIGNS := PySem.W.mg_of X G ccSIGNS
    c_MOST_STATES := PySem.W.mg_of X G ccMOST_STATES
    c_MOST_KEPT := PySem.W.mg_of X G ccMOST_KEPT
    n_all := PySem.W.mg_none_of X G zall
    n_bool := PySem.W.mg_none_of X G zbool
    n_enumerate := PySem.W.mg_none_of X G zenumerate
    n_int := PySem.W.mg_none_of X G zint
    n_isinstance := PySem.W.mg_none_of X G zisinstance
    n_len := PySem.W.mg_none_of X G zlen
    n_range := PySem.W.mg_none_of X G zrange
    n_str := PySem.W.mg_none_of X G zstr
    n_sum := PySem.W.mg_none_of X G zsum
    n_super := PySem.W.mg_none_of X G zsuper
    n_tuple := PySem.W.mg_none_of X G ztuple }, rfl⟩
end K2
set_option Elab.async false
set_option linter.all false
set_option maxRecDepth 100000
set_option maxHeartbeats 4000000
namespace K2
open PySem PySem.Spec PyProof.Rows L2 FX
section
variable {P : Program} {w : World} {K : PySem.W.Frag} {mg : Str → Option Value} {base : Heap} {A : Ad}
def isWholeD (d : PyData) : Bool := isB "int" d && !isB "bool" d
def sp_is_whole (K : PySem.W.Frag) : Sp := fun vs H Q _ => ∃ (v : V) (d : PyData), vs = [v] ∧ Dp K H v d ∧ Q (.bl (isWholeD d)) H
theorem ok_is_whole (T : Txt K mg A) : FnOk P w K mg base CX0 1 A.a_is_whole A.d_is_whole ["thing"] (sp_is_whole K) := by
  refine T.f_is_whole.F.ok sc_is_whole (fun vs H Q E h => ?_) (fun cdv Ar outer s H vs Q E hr h => ?_)
  · obtain ⟨v, d, rfl, _⟩ := h
    rfl
  · obtain ⟨v, d, rfl, hd, q⟩ := h
    refine ⟨_, (pss_one (ps_ret (pe_and (pe_callB call_isi (by rfl) T.n_isinstance (by decide +kernel) (pa_cons (pv 0) (pa_cons (pe_bltn (v := .ty "int") (by rfl) T.n_int (by decide +kernel) rfl) pa_nil))) (pe_one (pe_not (pe_callB call_isi (by rfl) T.n_isinstance (by decide +kernel) (pa_cons (pv 0) (pa_cons (pe_bltn (v := .ty "bool") (by rfl) T.n_bool (by decide +kernel) rfl) pa_nil)))))))), ?_⟩
    obtain ⟨t, h1, h2⟩ := Dp.isB hd (c := "int") (by decide)
    obtain ⟨u, h3, h4⟩ := Dp.isB hd (c := "bool") (by decide)
    refine ⟨_, rfl, v, _, t, _, _, rfl, .ty _, h1, h2, _, rfl, ?_⟩
    unfold isWholeD at q
    cases e : FX.isB "int" d with
    | true =>
      rw [e] at q
      exact iteT ⟨_, rfl, v, _, u, _, _, rfl, .ty _, h3, h4, _, rfl, q⟩
    | false =>
      rw [e] at q
      exact iteF q
/-! texts that are letters -/
def sp_is_letters (K : PySem.W.Frag) : Sp := fun vs H Q _ => ∃ (z : Str), vs = [.str z] ∧ z ∈ L8 ∧ ∀ H', Same H H' → Q (.bl true) H'
theorem ok_is_letters (T : Txt K mg A) : FnOk P w K mg base CX0 1 A.a_is_letters A.d_is_letters ["thing"] (sp_is_letters K) := by
  refine T.f_is_letters.F.ok sc_is_letters (fun vs H Q E h => ?_) (fun cdv Ar outer s H vs Q E hr h => ?_)
  · obtain ⟨z, rfl, _⟩ := h
    rfl
  · obtain ⟨z, rfl, hz, q⟩ := h
    have hl := l8_len z hz
    have hsz : z.length ≤ sizeLine := Nat.le_trans hl.2 (by decide)
    refine ⟨_, (pss_cons (ps_if (PW.pt (pw_or (pt_not (pt_val (pe_callB call_isi (by rfl) T.n_isinstance (by decide +kernel) (pa_cons (pv 0) (pa_cons (pe_bltn (v := .ty "str") (by rfl) T.n_str (by decide +kernel) rfl) pa_nil))))) (pw_or1 (pt_not (pt_chain op_le op_le pe_int (pe_callB call_len_str (by rfl) T.n_len (by decide +kernel) (pa_cons (pv 0) pa_nil)) pe_int))))) (pss_one (ps_ret pe_bl)) pss_nil) (pss_one (ps_ret (pe_callB (cr_all rfl) (by rfl) T.n_all (by decide +kernel) (pa_cons (pe_lc (own := [("sign", 1)]) (g := (gName 1)) (tt := tYes) (by rfl) sc_is_letters.nd (pi_str (pv 0)) (blkOk_by (own := [("sign", 1)]) (N := ["thing", "sign"]) (sc := defScope s_is_letters) (by decide +kernel)) (fun _ _ _ _ _ => (pg_name (i := 1) sc_is_letters.nd rfl (Or.inl rfl))) (fun _ _ _ _ _ => pts_nil) (fun _ _ _ _ _ => by exact (pe_and (pe_cmpR op_in_sign (pv 1) (pe_glob (v := v_SIGNS) rfl T.c_SIGNS ⟨_, rfl⟩) rfl) (pe_one (pe_cmpR op_eq (pe_m1 PySem.F.slot_str_count PySem.F.type_str_count mt_count (pv 0) (pv 1)) pe_int (nomark _)))))) pa_nil))))), ?_⟩
    obtain ⟨t, h1, h2⟩ := Dp.isB (K := K) (H := H) (.str z) (c := "str") (by decide)
    refine ⟨_, rfl, _, _, t, _, _, rfl, .ty _, h1, h2, _, rfl, iteF ?_⟩
    refine ⟨_, rfl, z, rfl, hsz, _, _, rfl, rfl, _, rfl, ?_⟩
    rw [if_pos (decide_eq_true (by omega))]
    refine ⟨_, _, rfl, rfl, _, rfl, ?_⟩
    rw [show decide ((z.length : Int) ≤ 4) = true from decide_eq_true (by omega)]
    refine iteF ?_
    refine ⟨_, rfl, z, rfl, fun D hD => ?_⟩
    refine lc_rel walk_str (fun _ v _ => v = .bl true) (fun _ _ _ _ _ h => h) hD (by show z.length < _; exact Nat.lt_of_le_of_lt hl.2 (by decide)) (fun _ _ => trivial) ?_ ?_
    · rintro i x H1 H2 hi sm ⟨o, hd⟩ ⟨rfl, c, hc, rfl⟩ kk
      have hcz : c ∈ zs z := by
        have := Array.mem_of_getElem? hc
        simpa [zs] using this
      refine ⟨rfl, ?_⟩
      unfold tYes
      refine iteT ⟨_, rfl, c, _, rfl, rfl, _, rfl, ?_⟩
      rw [show decide (c ∈ (Str.ofString "ABCDEFGHIJKLMNOPQRSTUVWXYZ_abcdefghijklmnopqrstuvwxyz").cps.toList) = true from decide_eq_true (l8_signs z hz c hcz)]
      refine iteT ⟨_, rfl, ⟨_, rfl⟩, _, rfl, z, _, rfl, rfl, rfl, ?_⟩
      have e1 : Txt.count z ⟨#[c]⟩ = 1 := l8_count z hz c hcz
      rw [e1]
      exact kk _ _ (Same.refl _) rfl
    · intro H1 xs sm hx hn hv
      have e1 : xs = (List.replicate xs.length true).map V.bl := by
        rw [List.map_replicate]
        exact List.eq_replicate_iff.mpr ⟨rfl, fun b hb => by
          obtain ⟨j, hj⟩ := List.getElem?_of_mem hb
          exact hv j b hj⟩
      refine ⟨D, List.replicate xs.length true, rfl, .inl (.inl (by rw [← e1]; exact hx)), ?_⟩
      rw [show (List.replicate xs.length true).all id = true by simp]
      exact q _ sm
/-! values -/
def isValD (z : Str) : PyData → Bool
  | .str x => (zs x).all fun c => decide (c ∈ zs z)
  | _ => false
def small : PyData → Prop
  | .str x => x.length ≤ 100000
  | _ => True
def sp_is_value (K : PySem.W.Frag) : Sp := fun vs H Q _ => ∃ (z : Str) (v : V) (d : PyData), vs = [.str z, v] ∧ Dp K H v d ∧ small d ∧ ∀ H', Same H H' → Q (.bl (isValD z d)) H'
theorem ok_is_value (T : Txt K mg A) : FnOk P w K mg base CX0 1 A.a_is_value A.d_is_value ["letters", "thing"] (sp_is_value K) := by
  refine T.f_is_value.F.ok sc_is_value (fun vs H Q E h => ?_) (fun cdv Ar outer s H vs Q E hr h => ?_)
  · obtain ⟨z, v, d, rfl, _⟩ := h
    rfl
  · obtain ⟨z, v, d, rfl, hd, hsm, q⟩ := h
    refine ⟨_, (pss_one (ps_ret (pe_and (pe_callB call_isi (by rfl) T.n_isinstance (by decide +kernel) (pa_cons (pv 1) (pa_cons (pe_bltn (v := .ty "str") (by rfl) T.n_str (by decide +kernel) rfl) pa_nil))) (pe_one (pe_callB (cr_all rfl) (by rfl) T.n_all (by decide +kernel) (pa_cons (pe_lc (own := [("sign", 2)]) (g := (gName 2)) (tt := tYes) (by rfl) sc_is_value.nd (pi_str (pv 1)) (blkOk_by (own := [("sign", 2)]) (N := ["letters", "thing", "sign"]) (sc := defScope s_is_value) (by decide +kernel)) (fun _ _ _ _ _ => (pg_name (i := 2) sc_is_value.nd rfl (Or.inl rfl))) (fun _ _ _ _ _ => pts_nil) (fun _ _ _ _ _ => by exact (pe_cmpR op_in_sign (pv 2) (pv 0) rfl))) pa_nil)))))), ?_⟩
    obtain ⟨t, h1, h2⟩ := Dp.isB hd (c := "str") (by decide)
    refine ⟨_, rfl, _, _, t, _, _, rfl, .ty _, h1, h2, _, rfl, ?_⟩
    cases hd with
    | str x =>
      refine iteT ⟨_, rfl, x, rfl, fun D hD => ?_⟩
      have hx : x.length ≤ 100000 := hsm
      refine lc_rel walk_str (fun j v _ => ∃ c, (zs x)[j]? = some c ∧ v = .bl (decide (c ∈ zs z))) (fun _ _ _ _ _ h => h) hD (by show x.length < _; exact Nat.lt_of_le_of_lt hx (by decide)) (fun _ _ => trivial) ?_ ?_
      · rintro i y H1 H2 hi sm ⟨o, hd⟩ ⟨rfl, c, hc, rfl⟩ kk
        refine ⟨rfl, ?_⟩
        unfold tYes
        refine iteT ⟨_, rfl, _, rfl, c, _, rfl, rfl, kk _ _ (Same.refl _) ⟨c, ?_, rfl⟩⟩
        have := hc
        simpa [zs] using this
      · intro H1 xs sm hx1 hn hv
        have e1 : xs = ((zs x).map fun c => decide (c ∈ zs z)).map V.bl := by
          refine List.ext_getElem? fun j => ?_
          rw [List.map_map, List.getElem?_map]
          cases e : xs[j]? with
          | none =>
            have q1 : xs.length ≤ j := List.getElem?_eq_none_iff.mp e
            have q2 : (zs x).length ≤ j := by rw [zs_length]; have : xs.length = x.length := hn; omega
            rw [List.getElem?_eq_none q2]
            rfl
          | some v =>
            obtain ⟨c, h1, h2⟩ := hv j v e
            rw [h1, h2]
            rfl
        refine ⟨D, _, rfl, .inl (.inl (by rw [hx1, e1])), ?_⟩
        have e2 : ((zs x).map fun c => decide (c ∈ zs z)).all id = isValD z (.str x) := by
          rw [List.all_map]
          rfl
        rw [e2]
        exact q _ sm
    | non => exact iteF (q _ (Same.refl _))
    | bl b => exact iteF (q _ (Same.refl _))
    | int i => exact iteF (q _ (Same.refl _))
    | lst hs ha => exact iteF (q _ (Same.refl _))
    | tup hs ha => exact iteF (q _ (Same.refl _))
def sp_check_letters : Sp := fun vs H Q _ => ∃ (z : Str), vs = [.str z] ∧ z ∈ L8 ∧ ∀ H', Same H H' → Q .non H'
theorem ok_check_letters (T : Txt K mg A) : FnOk P w K mg base CX0 2 A.a_check_letters A.d_check_letters ["letters"] sp_check_letters := by
  refine T.f_check_letters.F.ok sc_check_letters (fun vs H Q E h => ?_) (fun cdv Ar outer s H vs Q E hr h => ?_)
  · obtain ⟨z, rfl, _⟩ := h
    rfl
  · obtain ⟨z, rfl, hz, q⟩ := h
    refine ⟨_, (pss_one (ps_if (pt_not (pt_val (pe_call (ok_is_letters T) (hr.mono (by decide)) (by rfl) T.f_is_letters.g T.f_is_letters.F.kp T.f_is_letters.b .nil pass0 (pa_cons (pv 0) pa_nil)))) (pss_one (ps_never)) pss_nil)), ?_⟩
    exact ⟨_, rfl, z, rfl, hz, fun H1 s1 => ⟨_, rfl, iteF (q _ s1)⟩⟩
def sp_check_value : Sp := fun vs H Q _ => ∃ (z x : Str), vs = [.str z, .str x] ∧ x.length ≤ 100000 ∧ (∀ c ∈ zs x, c ∈ zs z) ∧ ∀ H', Same H H' → Q .non H'
theorem isVal_of {z x : Str} (h : ∀ c ∈ zs x, c ∈ zs z) : isValD z (.str x) = true := by
  show (zs x).all _ = true
  rw [List.all_eq_true]
  exact fun c hc => decide_eq_true (h c hc)
theorem ok_check_value (T : Txt K mg A) : FnOk P w K mg base CX0 2 A.a_check_value A.d_check_value ["letters", "value"] sp_check_value := by
  refine T.f_check_value.F.ok sc_check_value (fun vs H Q E h => ?_) (fun cdv Ar outer s H vs Q E hr h => ?_)
  · obtain ⟨z, x, rfl, _⟩ := h
    rfl
  · obtain ⟨z, x, rfl, hx, hv, q⟩ := h
    refine ⟨_, (pss_one (ps_if (pt_not (pt_val (pe_call (ok_is_value T) (hr.mono (by decide)) (by rfl) T.f_is_value.g T.f_is_value.F.kp T.f_is_value.b .nil pass0 (pa_cons (pv 0) (pa_cons (pv 1) pa_nil))))) (pss_one (ps_never)) pss_nil)), ?_⟩
    refine ⟨_, rfl, _, rfl, z, _, .str x, rfl, .str x, hx, fun H1 s1 => ⟨_, rfl, ?_⟩⟩
    rw [isVal_of hv]
    exact iteF (q _ s1)
/-! turns, rows -/
def inB (m : Int) : PyData → Bool
  | .int i => decide (0 ≤ i) && decide (i < m)
  | _ => false
def len1 : PyData → Bool
  | .str x => decide (x.length ≤ 1)
  | _ => false
def isTurnD (z : Str) (m : Int) : PyData → Bool
  | .tuple [s, o] => inB m s && (isValD z o && len1 o)
  | _ => false
def smallT : PyData → Prop
  | .tuple [_, o] => small o
  | _ => True
theorem inB_whole {m : Int} {d : PyData} (h : isWholeD d = false) : inB m d = false := by
  cases d <;> first | rfl | (exact absurd h (by decide)) | (simp [isWholeD, isB] at h)
def sp_is_turn (K : PySem.W.Frag) : Sp := fun vs H Q _ => ∃ (z : Str) (m : Int) (v : V) (d : PyData), vs = [.str z, .int m, v] ∧ Dp K H v d ∧ smallT d ∧ ∀ H', Same H H' → Q (.bl (isTurnD z m d)) H'
theorem ok_is_turn (T : Txt K mg A) : FnOk P w K mg base CX0 2 A.a_is_turn A.d_is_turn ["letters", "many", "turn"] (sp_is_turn K) := by
  refine T.f_is_turn.F.ok sc_is_turn (fun vs H Q E h => ?_) (fun cdv Ar outer s H vs Q E hr h => ?_)
  · obtain ⟨z, m, v, d, rfl, _⟩ := h
    rfl
  · obtain ⟨z, m, v, d, rfl, hd, hsm, q⟩ := h
    refine ⟨_, (pss_cons (ps_if (PW.pt (pw_or (pt_not (pt_val (pe_callB call_isi (by rfl) T.n_isinstance (by decide +kernel) (pa_cons (pv 2) (pa_cons (pe_bltn (v := .ty "tuple") (by rfl) T.n_tuple (by decide +kernel) rfl) pa_nil))))) (pw_or1 (pt_cmpR op_ne (pe_callB call_len_seq (by rfl) T.n_len (by decide +kernel) (pa_cons (pv 2) pa_nil)) pe_int (nomark _))))) (pss_one (ps_ret pe_bl)) pss_nil) (pss_cons (ps_asg (pv 2) (pg_tup (by rfl) (pgs_cons (pg_name (i := 3) sc_is_turn.nd rfl (Or.inl rfl)) (pgs_cons (pg_name (i := 4) sc_is_turn.nd rfl (Or.inl rfl)) pgs_nil)))) (pss_cons (ps_if (PW.pt (pw_or (pt_not (pt_val (pe_call (ok_is_whole T) (hr.mono (by decide)) (by rfl) T.f_is_whole.g T.f_is_whole.F.kp T.f_is_whole.b .nil pass0 (pa_cons (pv 3) pa_nil)))) (pw_or1 (pt_not (pt_chain op_le op_lt pe_int (pv 3) (pv 1)))))) (pss_one (ps_ret pe_bl)) pss_nil) (pss_one (ps_ret (pe_and (pe_call (ok_is_value T) (hr.mono (by decide)) (by rfl) T.f_is_value.g T.f_is_value.F.kp T.f_is_value.b .nil pass0 (pa_cons (pv 0) (pa_cons (pv 4) pa_nil))) (pe_one (pe_cmpR op_le (pe_callB call_len_str (by rfl) T.n_len (by decide +kernel) (pa_cons (pv 4) pa_nil)) pe_int (nomark _))))))))), ?_⟩
    obtain ⟨t, h1, h2⟩ := Dp.isB hd (c := "tuple") (by decide)
    refine ⟨_, rfl, _, _, t, _, _, rfl, .ty _, h1, h2, _, rfl, ?_⟩
    cases hd with
    | tup hs ha =>
      rename_i a xs ds
      refine iteF ⟨_, rfl, a, xs, rfl, .inr hs, rfl, _, rfl, ?_⟩
      have hl := DpAll.len ha
      match ds, xs, hl, ha, hsm with
      | [], [], _, _, _ => exact iteT (q _ (Same.refl _))
      | [_], [_], _, _, _ => exact iteT (q _ (Same.refl _))
      | _ :: _ :: _ :: _, x1 :: x2 :: x3 :: xr, _, _, _ =>
        have e : (!decide (V.int (((x1 :: x2 :: x3 :: xr).length : Nat) : Int) = V.int 2)) = true := by
          simp
          omega
        rw [e]
        exact iteT (q _ (Same.refl _))
      | [ds1, do1], [s, o], _, .cons h3 (.cons h4 .nil), hsm =>
        refine iteF ⟨_, rfl, a, _, rfl, hs, rfl, _, _, rfl, _, _, rfl, rfl, ?_⟩
        refine ⟨_, rfl, _, ds1, rfl, h3, _, rfl, ?_⟩
        show (if (!isWholeD ds1) = true then _ else _)
        have qf : ∀ H', Same H H' → inB m ds1 = false → Q (.bl false) H' := fun H' s' e => by
          have q1 := q H' s'
          rw [show isTurnD z m (.tuple [ds1, do1]) = false by simp [isTurnD, e]] at q1
          exact q1
        cases ew : isWholeD ds1 with
        | false => exact iteT (qf _ (Same.refl _) (inB_whole ew))
        | true =>
          refine iteF ?_
          cases h3 with
          | int i =>
            refine ⟨_, rfl, 0, i, rfl, rfl, _, rfl, ?_⟩
            by_cases h0 : 0 ≤ i
            · rw [if_pos (decide_eq_true h0)]
              refine ⟨_, rfl, i, m, rfl, rfl, _, rfl, ?_⟩
              by_cases hm : i < m
              · rw [show decide (i < m) = true from decide_eq_true hm]
                refine iteF ⟨_, rfl, _, rfl, z, _, do1, rfl, h4, hsm, fun H1 s1 => ⟨_, rfl, ?_⟩⟩
                have q1 : ∀ H', Same H H' → Q (.bl (isValD z do1 && len1 do1)) H' := fun H' s' => by
                  have q2 := q H' s'
                  rw [show isTurnD z m (.tuple [.int i, do1]) = (isValD z do1 && len1 do1) by simp [isTurnD, inB, h0, hm]] at q2
                  exact q2
                cases ev : isValD z do1 with
                | false =>
                  rw [ev] at q1
                  exact iteF (q1 _ s1)
                | true =>
                  refine iteT ?_
                  cases h4 with
                  | str x =>
                    have hx : x.length ≤ 100000 := hsm
                    refine ⟨_, rfl, x, rfl, Nat.le_trans hx (by decide), _, _, rfl, rfl, ?_⟩
                    have q3 := q1 _ s1
                    rw [ev] at q3
                    have e5 : decide (((x.length : Nat) : Int) ≤ 1) = len1 (.str x) := by
                      show _ = decide (x.length ≤ 1)
                      by_cases h : x.length ≤ 1
                      · rw [decide_eq_true h, decide_eq_true (by omega)]
                      · rw [decide_eq_false h, decide_eq_false (by omega)]
                    show Q (.bl (decide (((x.length : Nat) : Int) ≤ 1))) H1
                    rw [e5]
                    exact q3
                  | non => exact absurd ev (by simp [isValD])
                  | bl b => exact absurd ev (by simp [isValD])
                  | int j => exact absurd ev (by simp [isValD])
                  | lst hs ha => exact absurd ev (by simp [isValD])
                  | tup hs ha => exact absurd ev (by simp [isValD])
              · rw [show decide (i < m) = false from decide_eq_false hm]
                exact iteT (qf _ (Same.refl _) (by simp [inB, hm]))
            · rw [if_neg (by simp [h0])]
              exact ⟨_, rfl, iteT (qf _ (Same.refl _) (by simp [inB, h0]))⟩
          | non => exact absurd ew (by decide)
          | bl b => simp [isWholeD, FX.isB] at ew
          | str x => simp [isWholeD, FX.isB] at ew
          | lst hs ha => simp [isWholeD, FX.isB] at ew
          | tup hs ha => simp [isWholeD, FX.isB] at ew
    | non => exact iteT (q _ (Same.refl _))
    | bl b => exact iteT (q _ (Same.refl _))
    | int i => exact iteT (q _ (Same.refl _))
    | lst hs ha => exact iteT (q _ (Same.refl _))
    | str x => exact iteT (q _ (Same.refl _))
def isRowD (z : Str) (m : Int) : PyData → Bool
  | .tuple ts => decide (ts.length = z.length) && ts.all (isTurnD z m)
  | _ => false
def smallR : PyData → Prop
  | .tuple ts => ts.length ≤ 100000 ∧ ∀ t ∈ ts, smallT t
  | _ => True
def sp_is_row (K : PySem.W.Frag) : Sp := fun vs H Q _ => ∃ (z : Str) (m : Int) (v : V) (d : PyData), vs = [.str z, .int m, v] ∧ z.length ≤ 100 ∧ Dp K H v d ∧ smallR d ∧ ∀ H', Same H H' → Q (.bl (isRowD z m d)) H'
theorem ok_is_row (T : Txt K mg A) : FnOk P w K mg base CX0 3 A.a_is_row A.d_is_row ["letters", "many", "row"] (sp_is_row K) := by
  refine T.f_is_row.F.ok sc_is_row (fun vs H Q E h => ?_) (fun cdv Ar outer s H vs Q E hr h => ?_)
  · obtain ⟨z, m, v, d, rfl, _⟩ := h
    rfl
  · obtain ⟨z, m, v, d, rfl, hz, hd, hsm, q⟩ := h
    refine ⟨_, (pss_cons (ps_if (PW.pt (pw_or (pt_not (pt_val (pe_callB call_isi (by rfl) T.n_isinstance (by decide +kernel) (pa_cons (pv 2) (pa_cons (pe_bltn (v := .ty "tuple") (by rfl) T.n_tuple (by decide +kernel) rfl) pa_nil))))) (pw_or1 (pt_cmpR op_ne (pe_callB call_len_seq (by rfl) T.n_len (by decide +kernel) (pa_cons (pv 2) pa_nil)) (pe_callB call_len_str (by rfl) T.n_len (by decide +kernel) (pa_cons (pv 0) pa_nil)) (nomark _))))) (pss_one (ps_ret pe_bl)) pss_nil) (pss_one (ps_ret (pe_callB (cr_all rfl) (by rfl) T.n_all (by decide +kernel) (pa_cons (pe_lc (own := [("turn", 3)]) (g := (gName 3)) (tt := tYes) (by rfl) sc_is_row.nd (pi_tup (pv 2)) (blkOk_by (own := [("turn", 3)]) (N := ["letters", "many", "row", "turn"]) (sc := defScope s_is_row) (by decide +kernel)) (fun _ _ _ _ _ => (pg_name (i := 3) sc_is_row.nd rfl (Or.inl rfl))) (fun _ _ _ _ _ => pts_nil) (fun _ _ _ _ _ => by exact (pe_call (ok_is_turn T) (hr.mono (by decide)) (by rfl) T.f_is_turn.g T.f_is_turn.F.kp T.f_is_turn.b .nil pass0 (pa_cons (pv 0) (pa_cons (pv 1) (pa_cons (pv 3) pa_nil)))))) pa_nil))))), ?_⟩
    obtain ⟨t, h1, h2⟩ := Dp.isB hd (c := "tuple") (by decide)
    refine ⟨_, rfl, _, _, t, _, _, rfl, .ty _, h1, h2, _, rfl, ?_⟩
    cases hd with
    | tup hs ha =>
      rename_i a xs ds
      have hl := DpAll.len ha
      obtain ⟨hb, hsm⟩ : ds.length ≤ 100000 ∧ ∀ t ∈ ds, smallT t := hsm
      refine iteF ⟨_, rfl, a, xs, rfl, .inr hs, _, rfl, z, rfl, Nat.le_trans hz (by decide), rfl, _, rfl, ?_⟩
      by_cases hn : ds.length = z.length
      · rw [show (!decide (V.int (xs.length : Int) = V.int (z.length : Int))) = false by rw [hl, hn]; simp]
        refine iteF ⟨_, rfl, a, rfl, ⟨xs, hs⟩, fun D hD => ?_⟩
        refine lc_rel (walk_tup (xs := xs)) (fun j v _ => ∃ d, ds[j]? = some d ∧ v = .bl (isTurnD z m d)) (fun _ _ _ _ _ h => h) hD (Nat.lt_of_le_of_lt (Nat.le_of_eq hl) (Nat.lt_of_le_of_lt hb (by decide))) (fun H' s' => SqT.same s' hs) ?_ ?_
        · rintro i y H1 H2 hi sm ⟨o, hd⟩ ⟨rfl, hy⟩ kk
          obtain ⟨d, hd1, hd2⟩ := DpAll.get' ha hy
          refine ⟨rfl, ?_⟩
          unfold tYes
          refine iteT ⟨_, rfl, _, rfl, _, rfl, z, m, y, d, rfl, Dp.same sm hd2, hsm d (List.mem_of_getElem? hd1), fun H3 s3 => kk _ _ s3 ⟨d, hd1, rfl⟩⟩
        · intro H1 ys sm hx1 hn1 hv
          have e1 : ys = (ds.map (isTurnD z m)).map V.bl := by
            refine List.ext_getElem? fun j => ?_
            rw [List.map_map, List.getElem?_map]
            cases e : ys[j]? with
            | none =>
              have q1 : ys.length ≤ j := List.getElem?_eq_none_iff.mp e
              rw [List.getElem?_eq_none (by omega)]
              rfl
            | some v =>
              obtain ⟨d, h1, h2⟩ := hv j v e
              rw [h1, h2]
              rfl
          refine ⟨D, _, rfl, .inl (.inl (by rw [hx1, e1])), ?_⟩
          have e2 : (ds.map (isTurnD z m)).all id = isRowD z m (.tuple ds) := by
            show _ = (decide (ds.length = z.length) && ds.all (isTurnD z m))
            rw [List.all_map, decide_eq_true hn]
            rfl
          rw [e2]
          exact q _ sm
      · rw [show (!decide (V.int (xs.length : Int) = V.int (z.length : Int))) = true by rw [hl]; simp; omega]
        refine iteT ?_
        have q1 := q _ (Same.refl _)
        rw [show isRowD z m (.tuple ds) = false by simp [isRowD, hn]] at q1
        exact q1
    | non => exact iteT (q _ (Same.refl _))
    | bl b => exact iteT (q _ (Same.refl _))
    | int i => exact iteT (q _ (Same.refl _))
    | lst hs ha => exact iteT (q _ (Same.refl _))
    | str x => exact iteT (q _ (Same.refl _))
/-- rows that are those of a machine: valid ones pass -/
def sp_check_rows (K : PySem.W.Frag) : Sp := fun vs H Q _ => ∃ (z : Str) (v : V) (ds : List PyData), vs = [.str z, v] ∧ z.length ≤ 100 ∧ Dp K H v (.tuple ds) ∧ 1 ≤ ds.length ∧ ds.length ≤ 6 ∧ (∀ d ∈ ds, smallR d ∧ isRowD z ds.length d = true) ∧ ∀ H', Same H H' → Q .non H'
theorem ok_check_rows (T : Txt K mg A) : FnOk P w K mg base CX0 4 A.a_check_rows A.d_check_rows ["letters", "rows"] (sp_check_rows K) := by
  refine T.f_check_rows.F.ok sc_check_rows (fun vs H Q E h => ?_) (fun cdv Ar outer s H vs Q E hr h => ?_)
  · obtain ⟨z, v, ds, rfl, _⟩ := h
    rfl
  · obtain ⟨z, v, ds, rfl, hz, hd, h1, h6, hr', q⟩ := h
    refine ⟨_, (pss_cons (ps_if (PW.pt (pw_or (pt_not (pt_val (pe_callB call_isi (by rfl) T.n_isinstance (by decide +kernel) (pa_cons (pv 1) (pa_cons (pe_bltn (v := .ty "tuple") (by rfl) T.n_tuple (by decide +kernel) rfl) pa_nil))))) (pw_or1 (pt_not (pt_chain op_le op_le pe_int (pe_callB call_len_seq (by rfl) T.n_len (by decide +kernel) (pa_cons (pv 1) pa_nil)) (pe_glob (v := v_MOST_STATES) rfl T.c_MOST_STATES ⟨_, rfl⟩)))))) (pss_one (ps_never)) pss_nil) (pss_one (ps_for PassesOwn.never rfl (pi_enumT (by rfl) T.n_enumerate (pa_cons (pv 1) pa_nil)) (pg_tup (by rfl) (pgs_cons (pg_name (i := 2) sc_check_rows.nd rfl (Or.inl rfl)) (pgs_cons (pg_name (i := 3) sc_check_rows.nd rfl (Or.inl rfl)) pgs_nil))) (pss_one (ps_if (pt_not (pt_val (pe_call (ok_is_row T) (hr.mono (by decide)) (by rfl) T.f_is_row.g T.f_is_row.F.kp T.f_is_row.b .nil pass0 (pa_cons (pv 0) (pa_cons (pe_callB call_len_seq (by rfl) T.n_len (by decide +kernel) (pa_cons (pv 1) pa_nil)) (pa_cons (pv 3) pa_nil)))))) (pss_one (ps_never)) pss_nil))))), ?_⟩
    obtain ⟨t, g1, g2⟩ := Dp.isB hd (c := "tuple") (by decide)
    obtain ⟨a, xs, rfl, hs, ha⟩ := Dp.tupOf hd
    have hl := DpAll.len ha
    refine ⟨_, rfl, _, _, t, _, _, rfl, .ty _, g1, g2, _, rfl, iteF ?_⟩
    refine ⟨_, rfl, a, xs, rfl, .inr hs, _, _, rfl, rfl, _, rfl, ?_⟩
    rw [if_pos (decide_eq_true (by omega))]
    refine ⟨_, _, rfl, rfl, _, rfl, ?_⟩
    rw [show decide ((xs.length : Int) ≤ 6) = true from decide_eq_true (by omega)]
    refine iteF ?_
    refine ⟨_, rfl, a, xs, rfl, hs, ?_⟩
    refine for_it (walk_enumT (xs := xs)) (fun i σ H' => Same H H' ∧ ∃ o1 o2, σ = [some (.str z), some (.ref a), o1, o2]) ⟨Same.refl _, _, _, rfl⟩ (fun i σ H' _ h => SqT.same h.1 hs) ?_ ?_
    · rintro i x σ H1 H2 hi ⟨sm, o1, o2, rfl⟩ ⟨p, x1, x2, rfl, hp, rfl, hx1, hx2⟩
      refine ⟨p, _, rfl, .inl (.inl upd_same), rfl, x1, _, rfl, x2, _, rfl, rfl, ?_⟩
      have s2 : Same H (upd H1 p (.tup [x1, x2])) := Same.up sm hp
      obtain ⟨d, hd1, hd2⟩ := DpAll.get' ha hx2
      obtain ⟨k1, k2⟩ := hr' d (List.mem_of_getElem? hd1)
      refine ⟨_, rfl, _, rfl, a, xs, rfl, .inr (SqT.same s2 hs), _, rfl, z, _, x2, d, rfl, hz, Dp.same s2 hd2, k1, fun H3 s3 => ⟨_, rfl, ?_⟩⟩
      rw [hl, k2]
      exact iteF ⟨s2.trans s3, _, _, rfl⟩
    · rintro σ H1 ⟨sm, _⟩
      exact q _ sm
end
end K2
set_option Elab.async false
set_option linter.all false
set_option maxRecDepth 100000
set_option maxHeartbeats 4000000
namespace K2
open PySem PySem.Spec PyProof.Rows L2 FX
/-! machines as objects -/
def mfs (z : Str) (r : Addr) : List (Str × V) := [("_letters", .str z), ("_rows", .ref r)]
theorem mfs_put (z : Str) (r : Addr) : putF "_rows" (.ref r) (putF "_letters" (.str z) []) = mfs z r := rfl
theorem mfs_letters (z : Str) (r : Addr) : (mfs z r).lookup ("_letters" : Str) = some (.str z) := by
  show List.lookup _ [_, _] = _
  rw [List.lookup_cons_self]
theorem mfs_no (z : Str) (r : Addr) {m : Str} (h1 : (m == ("_letters" : Str)) = false) (h2 : (m == ("_rows" : Str)) = false) : (mfs z r).lookup m = none := by
  simp [mfs, List.lookup, h1, h2]
theorem mfs_rows (z : Str) (r : Addr) : (mfs z r).lookup ("_rows" : Str) = some (.ref r) := by
  have h : (("_rows" : Str) == ("_letters" : Str)) = false := by decide +kernel
  simp [mfs, List.lookup, h]
structure IsM (K : PySem.W.Frag) (C : Addr) (H : Hp) (p : Addr) (z : Str) (R : Rows) : Prop where
  at_ : ∃ dx r, H p = some (.ins C dx (mfs z r)) ∧ Dp K H (.ref r) (rowsD R)
  hz : z ∈ L8
  ok : MachOk (zs z) R
  six : R.length ≤ 6
theorem IsM.same {K : PySem.W.Frag} {C : Addr} {H H' : Hp} {p : Addr} {z : Str} {R : Rows} (m : IsM K C H p z R) (s : Same H H') : IsM K C H' p z R := by
  obtain ⟨⟨dx, r, h1, h2⟩, h3, h4, h5⟩ := m
  exact ⟨⟨dx, r, s _ _ h1, Dp.same s h2⟩, h3, h4, h5⟩
theorem l8_le {z : Str} (h : z ∈ L8) : z.length ≤ 100 := Nat.le_trans (l8_len z h).2 (by decide)
/-- rows of a machine pass -/
theorem turn_ok {z : Str} {m : Nat} {t : Nat × List Nat} (h1 : t.1 < m) (h2 : t.2.length ≤ 1) (h3 : ∀ c ∈ t.2, c ∈ zs z) : isTurnD z m (turnD t) = true ∧ smallT (turnD t) := by
  have e1 : (zs (S t.2)) = t.2 := by simp [zs, S]
  have e2 : (S t.2).length = t.2.length := by simp [S, Str.length]
  refine ⟨?_, ?_⟩
  · show (inB m (.int t.1) && (isValD z (.str (S t.2)) && len1 (.str (S t.2)))) = true
    have a1 : inB m (.int t.1) = true := by simp [inB]; omega
    have a2 : isValD z (.str (S t.2)) = true := isVal_of (by rw [e1]; exact h3)
    have a3 : len1 (.str (S t.2)) = true := by simp [len1, e2]; exact h2
    rw [a1, a2, a3]
    rfl
  · show (S t.2).length ≤ 100000
    omega
theorem row_ok {z : Str} {R : Rows} (M : MachOk (zs z) R) (hz : z ∈ L8) {row : List (Nat × List Nat)} (h : row ∈ R) : smallR (rowD row) ∧ isRowD z R.length (rowD row) = true := by
  have hl := M.rows row h
  rw [zs_length] at hl
  refine ⟨⟨?_, ?_⟩, ?_⟩
  · rw [List.length_map]
    have := l8_le hz
    omega
  · intro t ht
    obtain ⟨x, hx, rfl⟩ := List.mem_map.mp ht
    exact (turn_ok (z := z) (M.st row h x hx) (M.one row h x hx) (M.out row h x hx)).2
  · show (decide ((row.map turnD).length = z.length) && (row.map turnD).all (isTurnD z R.length)) = true
    rw [List.length_map, decide_eq_true hl, Bool.true_and, List.all_eq_true]
    intro t ht
    obtain ⟨x, hx, rfl⟩ := List.mem_map.mp ht
    exact (turn_ok (M.st row h x hx) (M.one row h x hx) (M.out row h x hx)).1
section
variable {P : Program} {w : World} {K : PySem.W.Frag} {mg : Str → Option Value} {base : Heap} {A : Ad}
def sp_init (K : PySem.W.Frag) (C : Addr) : Sp := fun vs H Q _ => ∃ (p dx r : Addr) (z : Str) (R : Rows), vs = [.ref p, .str z, .ref r] ∧ H p = some (.ins C dx []) ∧ z ∈ L8 ∧ MachOk (zs z) R ∧ R.length ≤ 6 ∧ Dp K (hid [p] H) (.ref r) (rowsD R) ∧
  ∀ H', Same (hid [p] H) (hid [p] H') → H' p = some (.ins C dx (mfs z r)) → Q .non H'
theorem ok_Machine_init (T : Txt K mg A) : FnOk P w K mg base CX0 5 A.a_Machine_init A.d_Machine_init ["self", "letters", "rows"] (sp_init K A.C) := by
  refine T.f_Machine_init.F.ok sc_Machine_init (fun vs H Q E h => ?_) (fun cdv Ar outer s H vs Q E hr h => ?_)
  · obtain ⟨p, dx, r, z, R, rfl, _⟩ := h
    rfl
  · obtain ⟨p, dx, r, z, R, rfl, hp, hz, M, h6, hd, q⟩ := h
    refine ⟨_, (pss_cons (ps_expr (pe_call (ok_check_letters T) (hr.mono (by decide)) (by rfl) T.f_check_letters.g T.f_check_letters.F.kp T.f_check_letters.b .nil pass0 (pa_cons (pv 1) pa_nil))) (pss_cons (ps_expr (pe_call (ok_check_rows T) (hr.mono (by decide)) (by rfl) T.f_check_rows.g T.f_check_rows.F.kp T.f_check_rows.b .nil pass0 (pa_cons (pv 1) (pa_cons (pv 2) pa_nil)))) (pss_cons (ps_fld (pv 0) (pv 1) rfl) (pss_one (ps_fld (pv 0) (pv 2) rfl))))), ?_⟩
    refine ⟨_, rfl, z, rfl, hz, fun H1 s1 => ?_⟩
    have hd1 : Dp K H (.ref r) (rowsD R) := Dp.same (hid_sub _ _) hd
    refine ⟨_, rfl, _, rfl, z, _, R.map rowD, rfl, l8_le hz, Dp.same s1 hd1, by rw [List.length_map]; exact M.pos, by rw [List.length_map]; exact h6, fun d hd => ?_, fun H2 s2 => ?_⟩
    · obtain ⟨row, hrow, rfl⟩ := List.mem_map.mp hd
      rw [List.length_map]
      exact row_ok M hz hrow
    · have hp2 := s2 _ _ (s1 _ _ hp)
      refine ⟨_, rfl, _, rfl, p, A.C, dx, _, rfl, hp2, T.cl, T.no_letters, (by show 0 < 1000; decide), ?_⟩
      refine ⟨_, rfl, _, rfl, p, A.C, dx, _, rfl, upd_same, T.cl, T.no_rows, (by show 1 < 1000; decide), ?_⟩
      refine q _ ?_ upd_same
      rw [hid_upd (by simp), hid_upd (by simp)]
      exact hid_same fun b o _ e => s2 b o (s1 b o e)
/-- Machine(z, r) -/
theorem mk_M {C : Addr} {H1 : Hp} {z : Str} {r : Addr} {R : Rows} {Q : VK} (hz : z ∈ L8) (M : MachOk (zs z) R) (h6 : R.length ≤ 6) (hd : Dp K H1 (.ref r) (rowsD R)) (hq : ∀ x H2, H1 x = none → Same H1 H2 → IsM K C H2 x z R → Q (.ref x) H2) :
    ∀ x dx, H1 x = none → H1 dx = none → dx ≠ x → sp_init K C (.ref x :: ([.str z, .ref r] ++ [])) (upd (upd H1 dx (.own x)) x (.ins C dx [])) (fun v H2 => v = .non ∧ Q (.ref x) H2) E0 := by
  intro x dx nx ndx ne
  have s1 : Same H1 (hid [x] (upd (upd H1 dx (.own x)) x (.ins C dx []))) := by
    rw [hid_upd (by simp)]
    intro b o e
    rw [hid_out (by simp; exact ne_of_none e nx), upd_ne (ne_of_none e ndx)]
    exact e
  refine ⟨x, dx, r, z, R, rfl, upd_same, hz, M, h6, Dp.same s1 hd, fun H2 s2 hx => ⟨rfl, hq x H2 nx (s1.trans (s2.trans (hid_sub _ _))) ⟨⟨dx, r, hx, Dp.same (s1.trans (s2.trans (hid_sub _ _))) hd⟩, hz, M, h6⟩⟩⟩
def sp_letters (K : PySem.W.Frag) (C : Addr) : Sp := fun vs H Q _ => ∃ (p : Addr) (z : Str) (R : Rows), vs = [.ref p] ∧ IsM K C H p z R ∧ Q (.str z) H
theorem ok_Machine_letters (T : Txt K mg A) : FnOk P w K mg base CX0 1 A.a_Machine_letters A.d_Machine_letters ["self"] (sp_letters K A.C) := by
  refine T.f_Machine_letters.F.ok sc_Machine_letters (fun vs H Q E h => ?_) (fun cdv Ar outer s H vs Q E hr h => ?_)
  · obtain ⟨p, z, R, rfl, _⟩ := h
    rfl
  · obtain ⟨p, z, R, rfl, ⟨⟨dx, r, hp, hd⟩, _, _, _⟩, q⟩ := h
    refine ⟨_, (pss_one (ps_ret (pe_fld (pv 0) rfl))), ?_⟩
    exact ⟨_, rfl, p, A.C, dx, _, _, rfl, hp, T.cl, T.no_letters, mfs_letters _ _, q⟩
def sp_rows (K : PySem.W.Frag) (C : Addr) : Sp := fun vs H Q _ => ∃ (p : Addr) (z : Str) (R : Rows), vs = [.ref p] ∧ IsM K C H p z R ∧ ∀ v, Dp K H v (rowsD R) → Q v H
theorem ok_Machine_rows (T : Txt K mg A) : FnOk P w K mg base CX0 1 A.a_Machine_rows A.d_Machine_rows ["self"] (sp_rows K A.C) := by
  refine T.f_Machine_rows.F.ok sc_Machine_rows (fun vs H Q E h => ?_) (fun cdv Ar outer s H vs Q E hr h => ?_)
  · obtain ⟨p, z, R, rfl, _⟩ := h
    rfl
  · obtain ⟨p, z, R, rfl, ⟨⟨dx, r, hp, hd⟩, _, _, _⟩, q⟩ := h
    refine ⟨_, (pss_one (ps_ret (pe_fld (pv 0) rfl))), ?_⟩
    exact ⟨_, rfl, p, A.C, dx, _, _, rfl, hp, T.cl, T.no_rows, mfs_rows _ _, q _ hd⟩
def sp_turn (K : PySem.W.Frag) (C : Addr) : Sp := fun vs H Q _ => ∃ (p : Addr) (z : Str) (R : Rows) (st c : Nat), vs = [.ref p, .int st, .str (S [c])] ∧ IsM K C H p z R ∧ st < R.length ∧ c ∈ zs z ∧ ∀ v, Dp K H v (turnD (stp (zs z) R st c)) → Q v H
theorem ok_Machine_turn (T : Txt K mg A) : FnOk P w K mg base CX0 1 A.a_Machine_turn A.d_Machine_turn ["self", "state", "letter"] (sp_turn K A.C) := by
  refine T.f_Machine_turn.F.ok sc_Machine_turn (fun vs H Q E h => ?_) (fun cdv Ar outer s H vs Q E hr h => ?_)
  · obtain ⟨p, z, R, st, c, rfl, _⟩ := h
    rfl
  · obtain ⟨p, z, R, st, c, rfl, ⟨⟨dx, r, hp, hd⟩, hz, M, h6⟩, hst, hc, q⟩ := h
    refine ⟨_, (pss_one (ps_ret (pe_ix ix_tup (pe_ix ix_tup (pe_fld (pv 0) rfl) (pv 1) (fun _ _ => rfl)) (pe_m1 PySem.F.slot_str_index PySem.F.type_str_index mt_sindex (pe_fld (pv 0) rfl) (pv 2)) (fun _ _ => rfl)))), ?_⟩
    obtain ⟨row, g1, g2, g3, g4⟩ := stp_mem M hst hc
    obtain ⟨a, xs, e1, hs, ha⟩ := Dp.tupOf hd
    cases e1
    obtain ⟨v1, k1, k2⟩ := DpAll.get ha (i := st) (d := rowD row) (by rw [List.getElem?_map, g1]; rfl)
    obtain ⟨b, ys, e2, hs2, ha2⟩ := Dp.tupOf k2
    obtain ⟨v2, k3, k4⟩ := DpAll.get ha2 (i := ix (zs z) c) (d := turnD (stp (zs z) R st c)) (by rw [List.getElem?_map, g2]; rfl)
    refine ⟨_, rfl, p, A.C, dx, _, _, rfl, hp, T.cl, T.no_rows, mfs_rows _ _, _, rfl, r, xs, st, v1, rfl, rfl, hs, atI_nat k1, ?_⟩
    refine ⟨_, rfl, p, A.C, dx, _, _, rfl, hp, T.cl, T.no_letters, mfs_letters _ _, ⟨_, rfl⟩, _, rfl, z, S [c], ix (zs z) c, [], rfl, rfl, l8_index z hz c hc, ?_⟩
    exact ⟨b, ys, ((ix (zs z) c : Nat) : Int), v2, e2, rfl, hs2, atI_nat k3, q v2 k4⟩
end
end K2
set_option Elab.async false
set_option linter.all false
set_option maxRecDepth 100000
set_option maxHeartbeats 4000000
namespace K2
open PySem PySem.Spec PyProof.Rows L2 FX
section
variable {P : Program} {w : World} {K : PySem.W.Frag} {mg : Str → Option Value} {base : Heap} {A : Ad}
def sp_after (K : PySem.W.Frag) (C : Addr) : Sp := fun vs H Q _ => ∃ (p : Addr) (x z : Str) (R : Rows), vs = [.ref p, .str x] ∧ IsM K C H p z R ∧ x.length ≤ 100000 ∧ (∀ c ∈ zs x, c ∈ zs z) ∧
  ∀ v H', Same H H' → Dp K H' v (.tuple [.int (runM (zs z) R 0 (zs x)).1, .str (S (runM (zs z) R 0 (zs x)).2)]) → Q v H'
theorem ok_Machine__after (T : Txt K mg A) : FnOk P w K mg base CX0 3 A.a_Machine__after A.d_Machine__after ["self", "value"] (sp_after K A.C) := by
  refine T.f_Machine__after.F.ok sc_Machine__after (fun vs H Q E h => ?_) (fun cdv Ar outer s H vs Q E hr h => ?_)
  · obtain ⟨p, x, z, R, rfl, _⟩ := h
    rfl
  · obtain ⟨p, x, z, R, rfl, hM, hx, hc, q⟩ := h
    refine ⟨_, (pss_cons (ps_expr (pe_call (ok_check_value T) (hr.mono (by decide)) (by rfl) T.f_check_value.g T.f_check_value.F.kp T.f_check_value.b .nil pass0 (pa_cons (pe_fld (pv 0) rfl) (pa_cons (pv 1) pa_nil)))) (pss_cons (ps_set (i := 2) sc_Machine__after.nd rfl (Or.inl rfl) pe_int) (pss_cons (ps_set (i := 3) sc_Machine__after.nd rfl (Or.inl rfl) (pe_lst pa_nil)) (pss_cons (ps_for PassesOwn.never rfl (pi_str (pv 1)) (pg_name (i := 4) sc_Machine__after.nd rfl (Or.inl rfl)) (pss_cons (ps_asg (pe_meth (pv 0) T.cl T.m_turn (ok_Machine_turn T) (hr.mono (by decide)) T.f_Machine_turn.b .nil pass0 (pa_cons (pv 2) (pa_cons (pv 4) pa_nil))) (pg_tup (by rfl) (pgs_cons (pg_name (i := 2) sc_Machine__after.nd rfl (Or.inl rfl)) (pgs_cons (pg_name (i := 5) sc_Machine__after.nd rfl (Or.inl rfl)) pgs_nil)))) (pss_one (ps_expr (pe_bm PySem.F.plainAttrs_list PySem.F.slot_list_append PySem.F.type_list_append mt_append (pv 3) (pa_cons (pv 5) pa_nil)))))) (pss_one (ps_ret (pe_tup (pa_cons (pv 2) (pa_cons (pe_join pe_str (pv 3)) pa_nil))))))))), ?_⟩
    obtain ⟨dx, r, hp, hd⟩ := hM.at_
    refine ⟨_, rfl, p, A.C, dx, _, _, rfl, hp, T.cl, T.no_letters, mfs_letters _ _, _, rfl, z, x, rfl, hx, hc, fun H1 s1 => ?_⟩
    refine ⟨Nat.zero_le _, fun l hl => ?_⟩
    have l0 : H l = none := s1.free hl
    refine ⟨_, rfl, x, rfl, ?_⟩
    refine for_it walk_str (fun i σ H' => Same H H' ∧ ∃ o1 o2, σ = [some (.ref p), some (.str x), some (.int (runM (zs z) R 0 ((zs x).take i)).1), some (.ref l), o1, o2] ∧ H' l = some (.lst ((outL (zs z) R 0 ((zs x).take i)).map fun o => .str (S o))))
      ⟨Same.up s1 hl, _, _, rfl, upd_same⟩ (fun _ _ _ _ _ => trivial) ?_ ?_
    · rintro i y σ H2 H3 hi ⟨sm, o1, o2, rfl, hL⟩ ⟨rfl, c, hci, rfl⟩
      have hcx := str_at hci
      have ht := take_succ' hcx
      have hpre : ∀ d ∈ (zs x).take i, d ∈ zs z := fun d hd => hc d (List.mem_of_mem_take hd)
      have hM2 := hM.same sm
      obtain ⟨dx2, r2, hp2, hd2⟩ := hM2.at_
      have hst := runM_lt hM.ok ((zs x).take i) 0 hM.ok.pos hpre
      have hcz : c ∈ zs z := hc c (List.mem_of_getElem? hcx)
      refine ⟨_, rfl, p, dx2, _, rfl, hp2, mfs_no _ _ (by decide +kernel) (by decide +kernel), _, rfl, _, rfl, p, z, R, _, c, rfl, hM2, hst, hcz, fun v hv => ?_⟩
      obtain ⟨t, xs, rfl, hts, hta⟩ := Dp.tupOf hv
      cases hta with
      | cons g1 g2 =>
        cases g2 with
        | cons g2 g3 =>
          cases g3
          obtain rfl := Dp.intOf g1
          obtain rfl := Dp.strOf g2
          refine ⟨t, _, rfl, hts, rfl, _, _, rfl, _, _, rfl, rfl, ?_⟩
          refine ⟨_, rfl, .inl ⟨rfl, _, SqL.of hL⟩, _, rfl, l, _, _, rfl, rfl, hL, ?_, ?_⟩
          · rw [List.length_map, outL_len, List.length_take]
            exact Nat.lt_of_le_of_lt (Nat.min_le_left _ _) (Nat.lt_of_lt_of_le hi (Nat.le_trans hx (by decide)))
          · refine ⟨Same.set sm l0, some (.str ⟨#[c]⟩), some (.str (S (stp (zs z) R (runM (zs z) R 0 ((zs x).take i)).1 c).2)), ?_, ?_⟩
            · rw [ht, runM_app]
              rfl
            · rw [upd_same, ht, outL_app, List.map_append]
              rfl
    · rintro σ H2 ⟨sm, o1, o2, rfl, hL⟩
      have e0 : (zs x).take x.cps.size = zs x := List.take_of_length_le (by simp [zs])
      rw [e0] at hL ⊢
      refine ⟨_, rfl, ⟨_, rfl⟩, _, rfl, S [], l, (outL (zs z) R 0 (zs x)).map S, rfl, rfl, .inl (.inl (.inl (by rw [hL, List.map_map]; rfl))), ?_, ?_⟩
      · have e5 : (((outL (zs z) R 0 (zs x)).map S).map (·.length)).sum = (outL (zs z) R 0 (zs x)).flatten.length := by
          rw [List.length_flatten, List.map_map]
          rfl
        have e6 := runM_len hM.ok (zs x) 0 hM.ok.pos hc
        rw [e5, outL_flat]
        rw [zs_length] at e6
        show _ + _ * 0 ≤ _
        omega
      · rw [join_flat, outL_flat]
        refine ⟨by show 2 ≤ sizeLine; decide, fun t ht => ?_⟩
        exact q _ _ (Same.up sm ht) (Dp.tupNew upd_same (.cons (.int _) (.cons (.str _) .nil)))
def sp_made (K : PySem.W.Frag) (C : Addr) : Sp := fun vs H Q _ => ∃ (p : Addr) (x z : Str) (R : Rows), vs = [.ref p, .str x] ∧ IsM K C H p z R ∧ x.length ≤ 100000 ∧ (∀ c ∈ zs x, c ∈ zs z) ∧
  ∀ H', Same H H' → Q (.str (S (madeM (zs z) R (zs x)))) H'
theorem ok_Machine_made (T : Txt K mg A) : FnOk P w K mg base CX0 4 A.a_Machine_made A.d_Machine_made ["self", "value"] (sp_made K A.C) := by
  refine T.f_Machine_made.F.ok sc_Machine_made (fun vs H Q E h => ?_) (fun cdv Ar outer s H vs Q E hr h => ?_)
  · obtain ⟨p, x, z, R, rfl, _⟩ := h
    rfl
  · obtain ⟨p, x, z, R, rfl, hM, hx, hc, q⟩ := h
    refine ⟨_, (pss_one (ps_ret (pe_ix ix_tup (pe_meth (pv 0) T.cl T.m__after (ok_Machine__after T) (hr.mono (by decide)) T.f_Machine__after.b .nil pass0 (pa_cons (pv 1) pa_nil)) pe_int (fun _ _ => rfl)))), ?_⟩
    obtain ⟨dx, r, hp, hd⟩ := hM.at_
    refine ⟨_, rfl, p, dx, _, rfl, hp, mfs_no _ _ (by decide +kernel) (by decide +kernel), _, rfl, p, x, z, R, rfl, hM, hx, hc, fun v H1 s1 hv => ?_⟩
    obtain ⟨t, xs, rfl, hts, hta⟩ := Dp.tupOf hv
    cases hta with
    | cons g1 g2 =>
      cases g2 with
      | cons g2 g3 =>
        cases g3
        obtain rfl := Dp.intOf g1
        obtain rfl := Dp.strOf g2
        exact ⟨t, _, 1, _, rfl, rfl, hts, rfl, q _ s1⟩
def sp_check_machine (K : PySem.W.Frag) (C : Addr) : Sp := fun vs H Q _ => ∃ (p : Addr) (z : Str) (R : Rows), vs = [.ref p] ∧ IsM K C H p z R ∧ Q .non H
theorem isM_ty (T : Txt K mg A) {H : Hp} {p : Addr} {z : Str} {R : Rows} (h : IsM K A.C H p z R) : TyX K H (.ref p) (.ref A.C) := by
  obtain ⟨dx, r, hp, _⟩ := h.at_
  exact .base (.ins hp T.cl T.iA T.iN T.iT T.iM)
theorem kit_self {t : Value} : PySem.W.kitOne K t t = some true := by
  unfold PySem.W.kitOne
  rw [if_pos (by simp)]
theorem ok_check_machine (T : Txt K mg A) : FnOk P w K mg base CX0 1 A.a_check_machine A.d_check_machine ["machine"] (sp_check_machine K A.C) := by
  refine T.f_check_machine.F.ok sc_check_machine (fun vs H Q E h => ?_) (fun cdv Ar outer s H vs Q E hr h => ?_)
  · obtain ⟨p, z, R, rfl, _⟩ := h
    rfl
  · obtain ⟨p, z, R, rfl, hM, q⟩ := h
    refine ⟨_, (pss_one (ps_if (pt_not (pt_val (pe_callB call_isi (by rfl) T.n_isinstance (by decide +kernel) (pa_cons (pv 0) (pa_cons (pe_glob (v := .ref A.C) rfl T.g_Machine rfl) pa_nil))))) (pss_one (ps_never)) pss_nil)), ?_⟩
    exact ⟨_, rfl, _, _, _, _, true, rfl, .own _, isM_ty T hM, kit_self, _, rfl, iteF q⟩
def sp_check_machines (K : PySem.W.Frag) (C : Addr) : Sp := fun vs H Q _ => ∃ (p q : Addr) (z : Str) (R1 R2 : Rows), vs = [.ref p, .ref q] ∧ IsM K C H p z R1 ∧ IsM K C H q z R2 ∧ Q .non H
theorem ok_check_machines (T : Txt K mg A) : FnOk P w K mg base CX0 3 A.a_check_machines A.d_check_machines ["one", "other"] (sp_check_machines K A.C) := by
  refine T.f_check_machines.F.ok sc_check_machines (fun vs H Q E h => ?_) (fun cdv Ar outer s H vs Q E hr h => ?_)
  · obtain ⟨p, p2, z, R1, R2, rfl, _⟩ := h
    rfl
  · obtain ⟨p, p2, z, R1, R2, rfl, h1, h2, q⟩ := h
    refine ⟨_, (pss_cons (ps_expr (pe_call (ok_check_machine T) (hr.mono (by decide)) (by rfl) T.f_check_machine.g T.f_check_machine.F.kp T.f_check_machine.b .nil pass0 (pa_cons (pv 0) pa_nil))) (pss_cons (ps_expr (pe_call (ok_check_machine T) (hr.mono (by decide)) (by rfl) T.f_check_machine.g T.f_check_machine.F.kp T.f_check_machine.b .nil pass0 (pa_cons (pv 1) pa_nil))) (pss_one (ps_if (pt_cmpR op_ne (pe_prop (pv 0) T.cl T.p_letters (ok_Machine_letters T) (hr.mono (by decide)) T.f_Machine_letters.b .nil pass0 rfl) (pe_prop (pv 1) T.cl T.p_letters (ok_Machine_letters T) (hr.mono (by decide)) T.f_Machine_letters.b .nil pass0 rfl) (nomark _)) (pss_one (ps_never)) pss_nil)))), ?_⟩
    obtain ⟨dx, r, hp, hd⟩ := h1.at_
    obtain ⟨dx2, r2, hp2, hd2⟩ := h2.at_
    refine ⟨_, rfl, p, z, R1, rfl, h1, _, rfl, p2, z, R2, rfl, h2, ?_⟩
    refine ⟨_, rfl, p, dx, _, rfl, hp, p, z, R1, rfl, h1, _, rfl, p2, dx2, _, rfl, hp2, p2, z, R2, rfl, h2, rfl, _, rfl, ?_⟩
    rw [show (!decide (V.str z = V.str z)) = false by simp]
    exact iteF q
end
end K2
set_option Elab.async false
set_option linter.all false
set_option maxRecDepth 100000
set_option maxHeartbeats 4000000
namespace K2
open PySem PySem.Spec PyProof.Rows L2 FX
section
variable {P : Program} {w : World} {K : PySem.W.Frag} {mg : Str → Option Value} {base : Heap} {A : Ad}
theorem l8_line {z : Str} (h : z ∈ L8) : z.length ≤ sizeLine := Nat.le_trans (l8_le h) (by decide)
theorem l8_lt {z : Str} (h : z ∈ L8) : z.cps.size < sizeLine := Nat.lt_of_le_of_lt (l8_le h) (by decide)
def sp_copying_row (K : PySem.W.Frag) : Sp := fun vs H Q _ => ∃ (z : Str) (st : Nat), vs = [.str z, .int st] ∧ z ∈ L8 ∧ ∀ v H', Same H H' → Dp K (New H H') v (rowD (copyRow (zs z) st)) → Q v H'
theorem ok_copying_row (T : Txt K mg A) : FnOk P w K mg base CX0 1 A.a_copying_row A.d_copying_row ["letters", "state"] (sp_copying_row K) := by
  refine T.f_copying_row.F.ok sc_copying_row (fun vs H Q E h => ?_) (fun cdv Ar outer s H vs Q E hr h => ?_)
  · obtain ⟨z, st, rfl, _⟩ := h
    rfl
  · obtain ⟨z, st, rfl, hz, q⟩ := h
    refine ⟨_, (pss_one (ps_ret (pe_callTy call_tuple_of (by rfl) T.n_tuple (by decide +kernel) (pa_cons (pe_lc (own := [("letter", 2)]) (g := (gName 2)) (tt := tYes) (by rfl) sc_copying_row.nd (pi_str (pv 0)) (blkOk_by (own := [("letter", 2)]) (N := ["letters", "state", "letter"]) (sc := defScope s_copying_row) (by decide +kernel)) (fun _ _ _ _ _ => (pg_name (i := 2) sc_copying_row.nd rfl (Or.inl rfl))) (fun _ _ _ _ _ => pts_nil) (fun _ _ _ _ _ => by exact (pe_tup (pa_cons (pv 1) (pa_cons (pv 2) pa_nil))))) pa_nil)))), ?_⟩
    refine ⟨_, rfl, z, rfl, fun D hD => ?_⟩
    refine lc_rel walk_str (fun j v H' => ∃ c, (zs z)[j]? = some c ∧ Dp K (New H H') v (turnD (st, [c]))) (fun _ _ _ _ s ⟨c, h1, h2⟩ => ⟨c, h1, Dp.same (new_trans s) h2⟩) hD (l8_lt hz) (fun _ _ => trivial) ?_ ?_
    · rintro i y H1 H2 hi sm ⟨o, hd⟩ ⟨rfl, c, hc, rfl⟩ kk
      refine ⟨rfl, ?_⟩
      unfold tYes
      refine iteT ⟨_, rfl, _, rfl, by show 2 ≤ sizeLine; decide, fun p hp => kk _ _ (same_upd hp) ⟨c, str_at hc, ?_⟩⟩
      exact Dp.tupNew (new_hid_at (sm.free hp) (by simp; exact (ne_of_none hd hp).symm) upd_same) (.cons (.int _) (.cons (.str _) .nil))
    · intro H1 xs sm hx hn hv
      refine ⟨D, xs, rfl, .inl ⟨.inl (.inl hx), fun l hl => q _ _ (Same.up sm hl) (tup_new (ls := [D]) sm hl (dpAll_of ?_ ?_))⟩⟩
      · rw [List.length_map, copyRow, List.length_map, hn, zs_length]
        rfl
      · intro j v d hj hd
        obtain ⟨c, h1, h2⟩ := hv j v hj
        rw [List.getElem?_map, copyRow, List.getElem?_map, h1] at hd
        cases hd
        exact h2
def sp_copying_turns (K : PySem.W.Frag) : Sp := fun vs H Q _ => ∃ (z : Str) (sl : List Nat), vs = [.str z, .str (S sl)] ∧ z ∈ L8 ∧ ∀ v H', Same H H' → Dp K (New H H') v (rowD (turnsR (zs z) sl)) → Q v H'
theorem ok_copying_turns (T : Txt K mg A) : FnOk P w K mg base CX0 1 A.a_copying_turns A.d_copying_turns ["letters", "silent"] (sp_copying_turns K) := by
  refine T.f_copying_turns.F.ok sc_copying_turns (fun vs H Q E h => ?_) (fun cdv Ar outer s H vs Q E hr h => ?_)
  · obtain ⟨z, st, rfl, _⟩ := h
    rfl
  · obtain ⟨z, sl, rfl, hz, q⟩ := h
    refine ⟨_, (pss_one (ps_ret (pe_callTy call_tuple_of (by rfl) T.n_tuple (by decide +kernel) (pa_cons (pe_lc (own := [("at", 2), ("letter", 3)]) (g := (gTup K 2 (gCons (gName 2) (gCons (gName 3) gNil)))) (tt := tYes) (by rfl) sc_copying_turns.nd (pi_enumS (by rfl) T.n_enumerate (pa_cons (pv 0) pa_nil)) (blkOk_by (own := [("at", 2), ("letter", 3)]) (N := ["letters", "silent", "at", "letter"]) (sc := defScope s_copying_turns) (by decide +kernel)) (fun _ _ _ _ _ => (pg_tup (by rfl) (pgs_cons (pg_name (i := 2) sc_copying_turns.nd rfl (Or.inl rfl)) (pgs_cons (pg_name (i := 3) sc_copying_turns.nd rfl (Or.inl rfl)) pgs_nil)))) (fun _ _ _ _ _ => pts_nil) (fun _ _ _ _ _ => by exact (pe_tup (pa_cons (pe_op op_add (pv 2) pe_int) (pa_cons (pe_ifExp (pt_cmpR op_eq (pv 3) (pv 1) (nomark _)) pe_str (pv 3)) pa_nil))))) pa_nil)))), ?_⟩
    refine ⟨_, rfl, z, rfl, fun D hD => ?_⟩
    refine lc_rel walk_enumS (fun j v H' => ∃ c, (zs z)[j]? = some c ∧ Dp K (New H H') v (turnD (j + 1, if [c] = sl then [] else [c]))) (fun _ _ _ _ s ⟨c, h1, h2⟩ => ⟨c, h1, Dp.same (new_trans s) h2⟩) hD (l8_lt hz) (fun _ _ => trivial) ?_ ?_
    · rintro i y H1 H2 hi sm ⟨o, hd⟩ ⟨p, c, rfl, hp, rfl, hc⟩ kk
      have s2 := same_upd (o := .tup [.int (i : Nat), .str ⟨#[c]⟩]) hp
      refine ⟨p, _, rfl, .inl (.inl upd_same), rfl, _, _, rfl, _, _, rfl, rfl, rfl, ?_⟩
      unfold tYes
      refine iteT ⟨_, rfl, _, _, rfl, rfl, _, rfl, _, rfl, rfl, _, rfl, ?_⟩
      have hd2 := s2 _ _ hd
      have key : ∀ (t : List Nat), t = (if [c] = sl then [] else [c]) → ∀ u, upd H1 p (.tup [.int (i : Nat), .str ⟨#[c]⟩]) u = none →
          ∃ c', (zs z)[i]? = some c' ∧ Dp K (New H (hid [D] (upd (upd H1 p (.tup [.int (i : Nat), .str ⟨#[c]⟩])) u (.tup [.int ((i : Nat) + 1), .str (S t)])))) (.ref u) (turnD (i + 1, if [c'] = sl then [] else [c'])) := by
        intro t et u hu
        refine ⟨c, str_at hc, ?_⟩
        rw [← et]
        have e2 : ((i : Int) + 1) = ((i + 1 : Nat) : Int) := by omega
        rw [e2]
        exact Dp.tupNew (new_hid_at ((Same.up sm hp).free hu) (by simp; exact (ne_of_none hd2 hu).symm) upd_same) (.cons (.int _) (.cons (.str _) .nil))
      by_cases e : [c] = sl
      · rw [show decide (V.str ⟨#[c]⟩ = V.str (S sl)) = true from decide_eq_true (by rw [← e]; rfl)]
        refine iteT ⟨by show 2 ≤ sizeLine; decide, fun u hu => kk _ _ (s2.trans (same_upd hu)) (key [] (by rw [if_pos e]) u hu)⟩
      · rw [show decide (V.str ⟨#[c]⟩ = V.str (S sl)) = false from decide_eq_false (fun h => e (S_inj (by injection h)))]
        refine iteF ⟨_, rfl, by show 2 ≤ sizeLine; decide, fun u hu => kk _ _ (s2.trans (same_upd hu)) (key [c] (by rw [if_neg e]) u hu)⟩
    · intro H1 xs sm hx hn hv
      refine ⟨D, xs, rfl, .inl ⟨.inl (.inl hx), fun l hl => q _ _ (Same.up sm hl) (tup_new (ls := [D]) sm hl (dpAll_of ?_ ?_))⟩⟩
      · rw [List.length_map, turnsR, List.length_map, List.length_range, hn, zs_length]
        rfl
      · intro j v d hj hd
        obtain ⟨c, h1, h2⟩ := hv j v hj
        have hjl := (List.getElem?_eq_some_iff.mp h1).1
        have e3 : (zs z).getD j 0 = c := by rw [List.getD_eq_getElem?_getD, h1]; rfl
        rw [List.getElem?_map, turnsR, List.getElem?_map, List.getElem?_range hjl] at hd
        simp only [Option.map_some, e3] at hd
        cases hd
        exact h2
end
end K2
set_option Elab.async false
set_option linter.all false
set_option maxRecDepth 100000
set_option maxHeartbeats 4000000
namespace K2
open PySem PySem.Spec PyProof.Rows L2 FX
section
variable {P : Program} {w : World} {K : PySem.W.Frag} {mg : Str → Option Value} {base : Heap} {A : Ad}
def sp_plain (K : PySem.W.Frag) (C : Addr) : Sp := fun vs H Q _ => ∃ (z : Str), vs = [.str z] ∧ z ∈ L8 ∧ ∀ p H', Same H H' → IsM K C H' p z (plainR (zs z)) → Q (.ref p) H'
theorem ok_plain (T : Txt K mg A) : FnOk P w K mg base CX0 7 A.a_plain A.d_plain ["letters"] (sp_plain K A.C) := by
  refine T.f_plain.F.ok sc_plain (fun vs H Q E h => ?_) (fun cdv Ar outer s H vs Q E hr h => ?_)
  · obtain ⟨z, rfl, _⟩ := h
    rfl
  · obtain ⟨z, rfl, hz, q⟩ := h
    refine ⟨_, (pss_cons (ps_expr (pe_call (ok_check_letters T) (hr.mono (by decide)) (by rfl) T.f_check_letters.g T.f_check_letters.F.kp T.f_check_letters.b .nil pass0 (pa_cons (pv 0) pa_nil))) (pss_one (ps_ret (pe_make T.mkC (ok_Machine_init T) (hr.mono (by decide)) (by rfl) T.g_Machine T.f_Machine_init.b .nil pass0 (pa_cons (pv 0) (pa_cons (pe_tup (pa_cons (pe_call (ok_copying_row T) (hr.mono (by decide)) (by rfl) T.f_copying_row.g T.f_copying_row.F.kp T.f_copying_row.b .nil pass0 (pa_cons (pv 0) (pa_cons pe_int pa_nil))) pa_nil)) pa_nil)))))), ?_⟩
    refine ⟨_, rfl, z, rfl, hz, fun H1 s1 => ?_⟩
    refine ⟨_, rfl, _, rfl, z, 0, rfl, hz, fun v H2 s2 hv => ⟨by show 1 ≤ sizeLine; decide, fun t ht => ?_⟩⟩
    exact mk_M hz (plain_ok _) (by show 1 ≤ 6; decide) (Dp.tupNew upd_same (.cons (Dp.same (same_upd ht) (dp_new hv)) .nil)) fun x H3 _ s3 hM => q x H3 ((s1.trans s2).trans ((same_upd ht).trans s3)) hM
def sp_cut (K : PySem.W.Frag) (C : Addr) : Sp := fun vs H Q _ => ∃ (z : Str) (n : Nat), vs = [.str z, .int n] ∧ z ∈ L8 ∧ n ≤ 5 ∧ ∀ p H', Same H H' → IsM K C H' p z (cutR (zs z) n) → Q (.ref p) H'
theorem flat_rep {α : Type} (n : Nat) (x : α) : (List.replicate n [x]).flatten = List.replicate n x := by
  induction n with
  | zero => rfl
  | succ n ih => rw [List.replicate_succ, List.flatten_cons, ih, List.replicate_succ]; rfl
theorem ok_cut (T : Txt K mg A) : FnOk P w K mg base CX0 7 A.a_cut A.d_cut ["letters", "many"] (sp_cut K A.C) := by
  refine T.f_cut.F.ok sc_cut (fun vs H Q E h => ?_) (fun cdv Ar outer s H vs Q E hr h => ?_)
  · obtain ⟨z, n, rfl, _⟩ := h
    rfl
  · obtain ⟨z, n, rfl, hz, hn, q⟩ := h
    refine ⟨_, (pss_cons (ps_expr (pe_call (ok_check_letters T) (hr.mono (by decide)) (by rfl) T.f_check_letters.g T.f_check_letters.F.kp T.f_check_letters.b .nil pass0 (pa_cons (pv 0) pa_nil))) (pss_cons (ps_if (PW.pt (pw_or (pt_not (pt_val (pe_call (ok_is_whole T) (hr.mono (by decide)) (by rfl) T.f_is_whole.g T.f_is_whole.F.kp T.f_is_whole.b .nil pass0 (pa_cons (pv 1) pa_nil)))) (pw_or1 (pt_not (pt_chain op_le op_le pe_int (pv 1) (pe_glob (v := v_MOST_KEPT) rfl T.c_MOST_KEPT ⟨_, rfl⟩)))))) (pss_one (ps_never)) pss_nil) (pss_cons (ps_setLc (i := 2) (own := [("state", 3)]) (g := (gName 3)) (tt := tYes) (by rfl) sc_cut.nd rfl rfl (sw_true rfl rfl rfl (by decide +kernel)) (pi_range1 (by rfl) T.n_range (pa_cons (pv 1) pa_nil)) (blkOk_by (own := [("state", 3)]) (N := ["letters", "many", "rows", "state"]) (sc := defScope s_cut) (by decide +kernel)) (fun _ _ _ _ _ => (pg_name (i := 3) sc_cut.nd rfl (Or.inl rfl))) (fun _ _ _ _ _ => pts_nil) (fun _ _ _ _ _ => by exact (pe_call (ok_copying_row T) (hr.mono (by decide)) (by rfl) T.f_copying_row.g T.f_copying_row.F.kp T.f_copying_row.b .nil pass0 (pa_cons (pv 0) (pa_cons (pe_op op_add (pv 3) pe_int) pa_nil))))) (pss_cons (ps_expr (pe_bm PySem.F.plainAttrs_list PySem.F.slot_list_append PySem.F.type_list_append mt_append (pv 2) (pa_cons (pe_op op_repT (pe_tup (pa_cons (pe_tup (pa_cons (pv 1) (pa_cons pe_str pa_nil))) pa_nil)) (pe_callB call_len_str (by rfl) T.n_len (by decide +kernel) (pa_cons (pv 0) pa_nil))) pa_nil))) (pss_one (ps_ret (pe_make T.mkC (ok_Machine_init T) (hr.mono (by decide)) (by rfl) T.g_Machine T.f_Machine_init.b .nil pass0 (pa_cons (pv 0) (pa_cons (pe_callTy call_tuple_of (by rfl) T.n_tuple (by decide +kernel) (pa_cons (pv 2) pa_nil)) pa_nil))))))))), ?_⟩
    refine ⟨_, rfl, z, rfl, hz, fun H1 s1 => ?_⟩
    refine ⟨_, rfl, _, .int n, rfl, .int _, _, rfl, iteF ?_⟩
    refine ⟨_, rfl, 0, _, rfl, rfl, _, rfl, ?_⟩
    rw [if_pos (decide_eq_true (by omega))]
    refine ⟨_, _, rfl, rfl, _, rfl, ?_⟩
    rw [show decide ((n : Int) ≤ 5) = true from decide_eq_true (by omega)]
    refine iteF ⟨_, rfl, n, rfl, by omega, by omega, fun D hD => ?_⟩
    have D0 : H D = none := s1.free hD
    refine lc_rel walk_range (fun j v H' => Dp K (New H H') v (rowD (copyRow (zs z) (j + 1)))) (fun _ _ _ _ s h => Dp.same (new_trans s) h) hD (by show (n : Int).toNat < _; exact Nat.lt_of_le_of_lt (by omega) (show 5 < sizeLine by decide)) (fun _ _ => trivial) ?_ ?_
    · rintro i y H2 H3 hi sm ⟨o, hd⟩ ⟨rfl, rfl⟩ kk
      refine ⟨rfl, ?_⟩
      unfold tYes
      refine iteT ⟨_, rfl, _, rfl, _, _, rfl, rfl, z, i + 1, ?_, hz, fun v H3 s3 hv => kk _ _ s3 (Dp.same ?_ hv)⟩
      · show [V.str z, V.int ((0 : Int) + (i : Int) + 1)] = _
        rw [int01]
      · exact new_in (s1.trans sm) (by simp [hd])
    · intro H2 xs sm hx hxn hv
      have s2 := s1.trans sm
      have hxn' : xs.length = n := by rw [hxn]; omega
      have hnD : ∀ p, H2 p = none → p ≠ D := fun p hp => (ne_of_none hx hp).symm
      refine ⟨_, rfl, .inl ⟨rfl, _, SqL.of hx⟩, _, rfl, by show 2 ≤ sizeLine; decide, fun p hp => ⟨by show 1 ≤ sizeLine; decide, fun p2 hp2 => ?_⟩⟩
      have l8 := l8_len z hz
      refine ⟨_, rfl, z, rfl, l8_line hz, p2, _, _, rfl, rfl, .inl (.inl upd_same), by simp, by omega, by omega, by simp, fun p3 hp3 => ?_⟩
      have t1 := same_upd (o := .tup [V.int n, V.str (Str.ofString "")]) hp
      have t2 := same_upd (o := .tup [V.ref p]) hp2
      have hx3 := same_upd (o := .tup (List.replicate ((z.length : Nat) : Int).toNat [V.ref p]).flatten) hp3 _ _ (t2 _ _ (t1 _ _ hx))
      refine ⟨D, xs, _, rfl, rfl, hx3, by rw [hxn']; exact Nat.lt_of_le_of_lt hn (show 5 < sizeLine by decide), ?_⟩
      refine ⟨_, rfl, _, rfl, D, _, rfl, .inl ⟨.inl (.inl upd_same), fun l hl => ?_⟩⟩
      generalize hH3 : upd (upd (upd H2 p (.tup [V.int n, V.str (Str.ofString "")])) p2 (.tup [V.ref p])) p3 (.tup (List.replicate ((z.length : Nat) : Int).toNat [V.ref p]).flatten) = H3 at hl hx3
      have s3 : Same H2 H3 := by rw [← hH3]; exact (t1.trans t2).trans (same_upd hp3)
      have g3 : H3 p3 = some (.tup (List.replicate z.length (V.ref p))) := by rw [← hH3, upd_same, flat_rep]; rfl
      have g1 : H3 p = some (.tup [V.int n, V.str (Str.ofString "")]) := by rw [← hH3]; exact same_upd hp3 _ _ (t2 _ _ upd_same)
      have nD : ∀ u, H2 u = none → u ≠ D := hnD
      have sh : Same (hid [D] H3) (upd (upd H3 D (.lst (xs ++ [V.ref p3]))) l (.tup (xs ++ [V.ref p3]))) := by
        rw [← hid_upd (l := D) (o := .lst (xs ++ [V.ref p3])) (by simp)]
        exact (hid_sub _ _).trans (same_upd hl)
      have hp3' : p3 ≠ D := nD p3 (t1.free (t2.free hp3))
      have hp1' : p ≠ D := nD p hp
      refine mk_M hz (cut_ok _ n) (by rw [cut_len]; omega) (Dp.tupNew upd_same (dpAll_of ?_ ?_)) fun x H5 _ s5 hM => q x H5 ?_ hM
      · simp [cutR, hxn']
      · intro j v d hj hd
        by_cases hlt : j < n
        · rw [List.getElem?_append_left (by omega)] at hj
          have e1 : d = rowD (copyRow (zs z) (j + 1)) := by
            rw [List.getElem?_map, cutR, List.getElem?_append_left (by simp; exact hlt), List.getElem?_map, List.getElem?_range hlt] at hd
            exact (Option.some.inj hd).symm
          rw [e1]
          exact Dp.same ((new_sub _ _).trans ((hid_same fun b o _ e => s3 b o e).trans sh)) (hv j v hj)
        · have hj2 : j = n := by
            have := (List.getElem?_eq_some_iff.mp hj).1
            simp at this
            omega
          subst hj2
          rw [List.getElem?_append_right (by omega), hxn'] at hj
          simp at hj
          subst hj
          rw [List.getElem?_map, cutR, List.getElem?_append_right (by simp)] at hd
          simp at hd
          subst hd
          refine Dp.same sh (Dp.tupNew (by rw [hid_out (by simp; exact hp3')]; exact g3) ?_)
          rw [List.map_replicate, zs_length]
          have hone : Dp K (hid [D] H3) (V.ref p) (turnD (j, [])) := Dp.tupNew (by rw [hid_out (by simp; exact hp1')]; exact g1) (.cons (.int _) (.cons (.str _) .nil))
          exact dpAll_of (by simp) fun i v d h1 h2 => by
            rw [(List.mem_replicate.mp (List.mem_of_getElem? h1)).2, (List.mem_replicate.mp (List.mem_of_getElem? h2)).2]
            exact hone
      · refine Same.trans ?_ s5
        refine Same.trans ?_ (same_upd hl)
        exact Same.set (s2.trans s3) D0
def sp_stripped (K : PySem.W.Frag) (C : Addr) : Sp := fun vs H Q _ => ∃ (z m : Str), vs = [.str z, .str m] ∧ z ∈ L8 ∧ m.length ≤ 100 ∧ (∀ c ∈ zs m, c ∈ zs z) ∧ ∀ p H', Same H H' → IsM K C H' p z (stripR (zs z) (zs m)) → Q (.ref p) H'
theorem ok_stripped (T : Txt K mg A) : FnOk P w K mg base CX0 7 A.a_stripped A.d_stripped ["letters", "some"] (sp_stripped K A.C) := by
  refine T.f_stripped.F.ok sc_stripped (fun vs H Q E h => ?_) (fun cdv Ar outer s H vs Q E hr h => ?_)
  · obtain ⟨z, m, rfl, _⟩ := h
    rfl
  · obtain ⟨z, m, rfl, hz, hm, hmz, q⟩ := h
    refine ⟨_, (pss_cons (ps_expr (pe_call (ok_check_letters T) (hr.mono (by decide)) (by rfl) T.f_check_letters.g T.f_check_letters.F.kp T.f_check_letters.b .nil pass0 (pa_cons (pv 0) pa_nil))) (pss_cons (ps_expr (pe_call (ok_check_value T) (hr.mono (by decide)) (by rfl) T.f_check_value.g T.f_check_value.F.kp T.f_check_value.b .nil pass0 (pa_cons (pv 0) (pa_cons (pv 1) pa_nil)))) (pss_cons (ps_set (i := 2) sc_stripped.nd rfl (Or.inl rfl) (pe_callTy call_tuple_of (by rfl) T.n_tuple (by decide +kernel) (pa_cons (pe_lc (own := [("letter", 3)]) (g := (gName 3)) (tt := tYes) (by rfl) sc_stripped.nd (pi_str (pv 0)) (blkOk_by (own := [("letter", 3)]) (N := ["letters", "some", "first", "letter"]) (sc := defScope s_stripped) (by decide +kernel)) (fun _ _ _ _ _ => (pg_name (i := 3) sc_stripped.nd rfl (Or.inl rfl))) (fun _ _ _ _ _ => pts_nil) (fun _ _ _ _ _ => by exact (pe_ifExp (pt_cmpR op_in_sign (pv 3) (pv 1) rfl) (pe_tup (pa_cons pe_int (pa_cons pe_str pa_nil))) (pe_tup (pa_cons pe_int (pa_cons (pv 3) pa_nil)))))) pa_nil))) (pss_one (ps_ret (pe_make T.mkC (ok_Machine_init T) (hr.mono (by decide)) (by rfl) T.g_Machine T.f_Machine_init.b .nil pass0 (pa_cons (pv 0) (pa_cons (pe_tup (pa_cons (pv 2) (pa_cons (pe_call (ok_copying_row T) (hr.mono (by decide)) (by rfl) T.f_copying_row.g T.f_copying_row.F.kp T.f_copying_row.b .nil pass0 (pa_cons (pv 0) (pa_cons pe_int pa_nil))) pa_nil))) pa_nil)))))))), ?_⟩
    refine ⟨_, rfl, z, rfl, hz, fun H1 s1 => ?_⟩
    refine ⟨_, rfl, _, rfl, z, m, rfl, by omega, hmz, fun H2 s2 => ?_⟩
    refine ⟨_, rfl, z, rfl, fun D hD => ?_⟩
    have s02 := s1.trans s2
    refine lc_rel walk_str (fun j v H' => ∃ c, (zs z)[j]? = some c ∧ Dp K (New H H') v (turnD (if c ∈ zs m then (0, []) else (1, [c])))) (fun _ _ _ _ s ⟨c, h1, h2⟩ => ⟨c, h1, Dp.same (new_trans s) h2⟩) hD (l8_lt hz) (fun _ _ => trivial) ?_ ?_
    · rintro i y H3 H4 hi sm ⟨o, hd⟩ ⟨rfl, c, hc, rfl⟩ kk
      refine ⟨rfl, ?_⟩
      unfold tYes
      refine iteT ⟨_, rfl, _, rfl, c, _, rfl, rfl, _, rfl, ?_⟩
      have key : ∀ (t : Nat × List Nat), t = (if c ∈ zs m then (0, []) else (1, [c])) → ∀ p, H4 p = none → ∃ c', (zs z)[i]? = some c' ∧ Dp K (New H (hid [D] (upd H4 p (.tup [.int (t.1 : Nat), .str (S t.2)])))) (.ref p) (turnD (if c' ∈ zs m then (0, []) else (1, [c']))) := by
        intro t et p hp
        refine ⟨c, str_at hc, ?_⟩
        rw [← et]
        exact Dp.tupNew (new_hid_at ((s02.trans sm).free hp) (by simp; exact (ne_of_none hd hp).symm) upd_same) (.cons (.int _) (.cons (.str _) .nil))
      by_cases e : c ∈ zs m
      · rw [show decide (c ∈ m.cps.toList) = true from decide_eq_true e]
        exact iteT ⟨by show 2 ≤ sizeLine; decide, fun p hp => kk _ _ (same_upd hp) (key (0, []) (by rw [if_pos e]) p hp)⟩
      · rw [show decide (c ∈ m.cps.toList) = false from decide_eq_false e]
        exact iteF ⟨_, rfl, by show 2 ≤ sizeLine; decide, fun p hp => kk _ _ (same_upd hp) (key (1, [c]) (by rw [if_neg e]) p hp)⟩
    · intro H3 xs sm hx hxn hv
      refine ⟨D, xs, rfl, .inl ⟨.inl (.inl hx), fun l hl => ?_⟩⟩
      have d1 : Dp K (upd H3 l (.tup xs)) (.ref l) (rowD ((zs z).map fun c => if c ∈ zs m then (0, []) else (1, [c]))) := by
        refine dp_new (H0 := H) (tup_new (ls := [D]) (s02.trans sm) hl (dpAll_of ?_ ?_))
        · rw [List.length_map, List.length_map, hxn, zs_length]
          rfl
        · intro j v d hj hd
          obtain ⟨c, h1, h2⟩ := hv j v hj
          rw [List.getElem?_map, List.getElem?_map, h1] at hd
          cases hd
          exact h2
      refine ⟨_, rfl, _, rfl, _, rfl, z, 1, rfl, hz, fun v H4 s4 hv4 => ⟨by show 2 ≤ sizeLine; decide, fun t ht => ?_⟩⟩
      have s5 := same_upd (o := .tup [V.ref l, v]) ht
      exact mk_M hz (strip_ok _ _) (by show 2 ≤ 6; decide) (Dp.tupNew upd_same (.cons (Dp.same (s4.trans s5) d1) (.cons (Dp.same s5 (dp_new hv4)) .nil))) fun x H6 _ s6 hM => q x H6 ((s02.trans sm).trans ((same_upd hl).trans (s4.trans (s5.trans s6)))) hM
end
end K2
set_option Elab.async false
set_option linter.all false
set_option maxRecDepth 100000
set_option maxHeartbeats 4000000
namespace K2
open PySem PySem.Spec PyProof.Rows L2 FX
section
variable {P : Program} {w : World} {K : PySem.W.Frag} {mg : Str → Option Value} {base : Heap} {A : Ad}
def sp_squeezed (K : PySem.W.Frag) (C : Addr) : Sp := fun vs H Q _ => ∃ (z m : Str), vs = [.str z, .str m] ∧ z ∈ L8 ∧ m.length ≤ 100 ∧ (∀ c ∈ zs m, c ∈ zs z) ∧ ∀ p H', Same H H' → IsM K C H' p z (squeezeR (zs z) (zs m)) → Q (.ref p) H'
def sqD (z m : List Nat) (i : Nat) : List PyData := rowD (turnsR z []) :: ((z.take i).map fun l => rowD (turnsR z (if l ∈ m then [l] else [])))
theorem ok_squeezed (T : Txt K mg A) : FnOk P w K mg base CX0 7 A.a_squeezed A.d_squeezed ["letters", "some"] (sp_squeezed K A.C) := by
  refine T.f_squeezed.F.ok sc_squeezed (fun vs H Q E h => ?_) (fun cdv Ar outer s H vs Q E hr h => ?_)
  · obtain ⟨z, m, rfl, _⟩ := h
    rfl
  · obtain ⟨z, m, rfl, hz, hm, hmz, q⟩ := h
    refine ⟨_, (pss_cons (ps_expr (pe_call (ok_check_letters T) (hr.mono (by decide)) (by rfl) T.f_check_letters.g T.f_check_letters.F.kp T.f_check_letters.b .nil pass0 (pa_cons (pv 0) pa_nil))) (pss_cons (ps_expr (pe_call (ok_check_value T) (hr.mono (by decide)) (by rfl) T.f_check_value.g T.f_check_value.F.kp T.f_check_value.b .nil pass0 (pa_cons (pv 0) (pa_cons (pv 1) pa_nil)))) (pss_cons (ps_set (i := 2) sc_squeezed.nd rfl (Or.inl rfl) (pe_lst (pa_cons (pe_call (ok_copying_turns T) (hr.mono (by decide)) (by rfl) T.f_copying_turns.g T.f_copying_turns.F.kp T.f_copying_turns.b .nil pass0 (pa_cons (pv 0) (pa_cons pe_str pa_nil))) pa_nil))) (pss_cons (ps_for PassesOwn.never rfl (pi_str (pv 0)) (pg_name (i := 3) sc_squeezed.nd rfl (Or.inl rfl)) (pss_one (ps_expr (pe_bm PySem.F.plainAttrs_list PySem.F.slot_list_append PySem.F.type_list_append mt_append (pv 2) (pa_cons (pe_call (ok_copying_turns T) (hr.mono (by decide)) (by rfl) T.f_copying_turns.g T.f_copying_turns.F.kp T.f_copying_turns.b .nil pass0 (pa_cons (pv 0) (pa_cons (pe_ifExp (pt_cmpR op_in_sign (pv 3) (pv 1) rfl) (pv 3) pe_str) pa_nil))) pa_nil))))) (pss_one (ps_ret (pe_make T.mkC (ok_Machine_init T) (hr.mono (by decide)) (by rfl) T.g_Machine T.f_Machine_init.b .nil pass0 (pa_cons (pv 0) (pa_cons (pe_callTy call_tuple_of (by rfl) T.n_tuple (by decide +kernel) (pa_cons (pv 2) pa_nil)) pa_nil))))))))), ?_⟩
    refine ⟨_, rfl, z, rfl, hz, fun H1 s1 => ?_⟩
    refine ⟨_, rfl, _, rfl, z, m, rfl, by omega, hmz, fun H2 s2 => ?_⟩
    have s02 := s1.trans s2
    refine ⟨_, rfl, z, [], rfl, hz, fun v H3 s3 hv => ⟨by show 1 ≤ sizeLine; decide, fun D hD => ?_⟩⟩
    have D0 : H D = none := (s02.trans s3).free hD
    refine ⟨_, rfl, z, rfl, ?_⟩
    refine for_it walk_str (fun i σ H' => Same H H' ∧ ∃ o xs, σ = [some (.str z), some (.str m), some (.ref D), o] ∧ H' D = some (.lst xs) ∧ DpAll K (New H (hid [D] H')) xs (sqD (zs z) (zs m) i))
      ⟨Same.up (s02.trans s3) hD, none, [v], rfl, upd_same, ?_⟩ (fun _ _ _ _ _ => trivial) ?_ ?_
    · rw [hid_upd (by simp)]
      exact .cons (Dp.same (new_in2 s02 hD) hv) .nil
    · rintro i y σ H4 H5 hi ⟨sm, o, xs, rfl, hx, hd⟩ ⟨rfl, c, hc, rfl⟩
      have hcz := str_at hc
      refine ⟨_, rfl, .inl ⟨rfl, _, SqL.of hx⟩, _, rfl, _, rfl, _, rfl, c, _, rfl, rfl, _, rfl, ?_⟩
      have key : ∀ (sl : List Nat), sl = (if c ∈ zs m then [c] else []) → sp_copying_turns K ([.str z, .str (S sl)] ++ []) H5 (fun x H6 => ∃ l ys y, V.ref D = .ref l ∧ [x] = [y] ∧ H6 l = some (.lst ys) ∧ ys.length < sizeLine ∧ (Same H (upd H6 l (.lst (ys ++ [y]))) ∧ ∃ o xs, ([some (.str z), some (.str m), some (.ref D), some (V.str ⟨#[c]⟩)] : L2.St) = [some (.str z), some (.str m), some (.ref D), o] ∧ upd H6 l (.lst (ys ++ [y])) D = some (.lst xs) ∧ DpAll K (New H (hid [D] (upd H6 l (.lst (ys ++ [y]))))) xs (sqD (zs z) (zs m) (i + 1)))) E0 := by
        intro sl es
        refine ⟨z, sl, rfl, hz, fun v6 H6 s6 hv6 => ⟨D, xs, v6, rfl, rfl, s6 _ _ hx, ?_, Same.set (sm.trans s6) D0, _, xs ++ [v6], rfl, upd_same, ?_⟩⟩
        · have hl := DpAll.len hd
          rw [hl, sqD, List.length_cons, List.length_map, List.length_take]
          have := l8_le hz
          exact Nat.lt_of_le_of_lt (show _ ≤ 101 by rw [zs_length]; omega) (by decide)
        · rw [hid_upd (by simp)]
          have e1 : sqD (zs z) (zs m) (i + 1) = sqD (zs z) (zs m) i ++ [rowD (turnsR (zs z) sl)] := by
            rw [sqD, take_succ' hcz, List.map_append, es]
            rfl
          rw [e1]
          exact DpAll.app (DpAll.same (new_trans (hid_same fun b o _ e => s6 b o e)) hd) (.cons (Dp.same (new_in sm (by simp [hx])) hv6) .nil)
      by_cases e : c ∈ zs m
      · rw [show decide (c ∈ m.cps.toList) = true from decide_eq_true e]
        exact iteT ⟨_, rfl, key [c] (by rw [if_pos e])⟩
      · rw [show decide (c ∈ m.cps.toList) = false from decide_eq_false e]
        exact iteF (key [] (by rw [if_neg e]))
    · rintro σ H4 ⟨sm, o, xs, rfl, hx, hd⟩
      refine ⟨_, rfl, _, rfl, D, xs, rfl, .inl ⟨.inl (.inl hx), fun l hl => ?_⟩⟩
      have e1 : sqD (zs z) (zs m) z.cps.size = (squeezeR (zs z) (zs m)).map rowD := by
        rw [sqD, List.take_of_length_le (by simp [zs]), squeezeR, List.map_cons, List.map_map]
        rfl
      rw [e1] at hd
      refine mk_M hz (squeeze_ok _ _) (by rw [squeeze_len, zs_length]; have := (l8_len z hz).2; omega) (dp_new (H0 := H) (tup_new (ls := [D]) sm hl hd)) fun x H6 _ s6 hM => q x H6 (sm.trans ((same_upd hl).trans s6)) hM
/-! a pair of states -/
def sp_joined (K : PySem.W.Frag) (C : Addr) : Sp := fun vs H Q _ => ∃ (p q : Addr) (v : V) (c : Nat) (z : Str) (R1 R2 : Rows) (pr : Nat × Nat), vs = [.ref p, .ref q, v, .str (S [c])] ∧ IsM K C H p z R1 ∧ IsM K C H q z R2 ∧ Dp K H v (dP pr) ∧ pr.1 < R1.length ∧ pr.2 < R2.length ∧ c ∈ zs z ∧
  ∀ v' H', Same H H' → Dp K (New H H') v' (.tuple [dP (jt (zs z) R1 R2 pr c).1, .str (S (jt (zs z) R1 R2 pr c).2)]) → Q v' H'
theorem two_of {K : PySem.W.Frag} {H : Hp} {v : V} {a b : PyData} (h : Dp K H v (.tuple [a, b])) : ∃ t x y, v = .ref t ∧ SqT K H t [x, y] ∧ Dp K H x a ∧ Dp K H y b := by
  obtain ⟨t, xs, rfl, hs, ha⟩ := Dp.tupOf h
  cases ha with
  | cons g1 g2 =>
    cases g2 with
    | cons g2 g3 =>
      cases g3
      exact ⟨t, _, _, rfl, hs, g1, g2⟩
theorem two_ints {K : PySem.W.Frag} {H : Hp} {v : V} {a b : Int} (h : Dp K H v (.tuple [.int a, .int b])) : ∃ t, v = .ref t ∧ SqT K H t [.int a, .int b] := by
  obtain ⟨t, x, y, rfl, hs, h1, h2⟩ := two_of h
  rw [Dp.intOf h1, Dp.intOf h2] at hs
  exact ⟨t, rfl, hs⟩
theorem turn_of {K : PySem.W.Frag} {H : Hp} {v : V} {t : Nat × List Nat} (h : Dp K H v (turnD t)) : ∃ a, v = .ref a ∧ SqT K H a [.int t.1, .str (S t.2)] := by
  obtain ⟨a, x, y, rfl, hs, h1, h2⟩ := two_of h
  rw [Dp.intOf h1, Dp.strOf h2] at hs
  exact ⟨a, rfl, hs⟩
theorem ok_joined_turn (T : Txt K mg A) : FnOk P w K mg base CX0 2 A.a_joined_turn A.d_joined_turn ["one", "other", "pair", "letter"] (sp_joined K A.C) := by
  refine T.f_joined_turn.F.ok sc_joined_turn (fun vs H Q E h => ?_) (fun cdv Ar outer s H vs Q E hr h => ?_)
  · obtain ⟨p, q, v, c, z, R1, R2, pr, rfl, _⟩ := h
    rfl
  · obtain ⟨p, p2, v, c, z, R1, R2, pr, rfl, h1, h2, hv, hb1, hb2, hc, q⟩ := h
    refine ⟨_, (pss_cons (ps_asg (pv 2) (pg_tup (by rfl) (pgs_cons (pg_name (i := 4) sc_joined_turn.nd rfl (Or.inl rfl)) (pgs_cons (pg_name (i := 5) sc_joined_turn.nd rfl (Or.inl rfl)) pgs_nil)))) (pss_cons (ps_asg (pe_meth (pv 0) T.cl T.m_turn (ok_Machine_turn T) (hr.mono (by decide)) T.f_Machine_turn.b .nil pass0 (pa_cons (pv 4) (pa_cons (pv 3) pa_nil))) (pg_tup (by rfl) (pgs_cons (pg_name (i := 4) sc_joined_turn.nd rfl (Or.inl rfl)) (pgs_cons (pg_name (i := 6) sc_joined_turn.nd rfl (Or.inl rfl)) pgs_nil)))) (pss_cons (ps_if (pt_cmpR op_eq (pv 6) pe_str (nomark _)) (pss_one (ps_ret (pe_tup (pa_cons (pe_tup (pa_cons (pv 4) (pa_cons (pv 5) pa_nil))) (pa_cons pe_str pa_nil))))) pss_nil) (pss_cons (ps_asg (pe_meth (pv 1) T.cl T.m_turn (ok_Machine_turn T) (hr.mono (by decide)) T.f_Machine_turn.b .nil pass0 (pa_cons (pv 5) (pa_cons (pv 6) pa_nil))) (pg_tup (by rfl) (pgs_cons (pg_name (i := 5) sc_joined_turn.nd rfl (Or.inl rfl)) (pgs_cons (pg_name (i := 7) sc_joined_turn.nd rfl (Or.inl rfl)) pgs_nil)))) (pss_one (ps_ret (pe_tup (pa_cons (pe_tup (pa_cons (pv 4) (pa_cons (pv 5) pa_nil))) (pa_cons (pv 7) pa_nil))))))))), ?_⟩
    obtain ⟨t, rfl, ht⟩ := two_ints hv
    obtain ⟨dx, r, hp, hd⟩ := h1.at_
    obtain ⟨dx2, r2, hp2, hd2⟩ := h2.at_
    refine ⟨_, rfl, t, _, rfl, ht, rfl, _, _, rfl, _, _, rfl, rfl, ?_⟩
    refine ⟨_, rfl, p, dx, _, rfl, hp, mfs_no _ _ (by decide +kernel) (by decide +kernel), _, rfl, _, rfl, p, z, R1, pr.1, c, rfl, h1, hb1, hc, fun u hu => ?_⟩
    obtain ⟨a, rfl, ha⟩ := turn_of hu
    refine ⟨a, _, rfl, ha, rfl, _, _, rfl, _, _, rfl, rfl, _, rfl, rfl, _, rfl, ?_⟩
    have h1one := stp_one h1.ok hb1 hc
    have h1out := stp_out h1.ok hb1 hc
    cases e : (stp (zs z) R1 pr.1 c).2 with
    | nil =>
      have ej : jt (zs z) R1 R2 pr c = (((stp (zs z) R1 pr.1 c).1, pr.2), []) := by
        unfold jt
        rw [e]
      rw [ej] at q
      rw [show decide (V.str (S []) = V.str (Str.ofString "")) = true from rfl]
      refine iteT ⟨_, rfl, _, rfl, by show 2 ≤ sizeLine; decide, fun t1 ht1 => ⟨by show 2 ≤ sizeLine; decide, fun t2 ht2 => q _ _ (Same.up (same_upd ht1) ht2) ?_⟩⟩
      refine Dp.tupNew (new_at ((same_upd ht1).free ht2) upd_same) (.cons (Dp.tupNew (new_at ht1 (same_upd ht2 _ _ upd_same)) (.cons (.int _) (.cons (.int _) .nil))) (.cons (.str _) .nil))
    | cons d r =>
      have er : r = [] := by
        rw [e] at h1one
        cases r with
        | nil => rfl
        | cons _ _ => simp at h1one
      subst er
      have hd' : d ∈ zs z := h1out d (by rw [e]; simp)
      have ej : jt (zs z) R1 R2 pr c = (((stp (zs z) R1 pr.1 c).1, (stp (zs z) R2 pr.2 d).1), (stp (zs z) R2 pr.2 d).2) := by
        unfold jt
        rw [e]
      rw [ej] at q
      rw [show decide (V.str (S [d]) = V.str (Str.ofString "")) = false from decide_eq_false (fun h => by
        injection h with h
        exact S_cons d h)]
      refine iteF ?_
      refine ⟨_, rfl, p2, dx2, _, rfl, hp2, mfs_no _ _ (by decide +kernel) (by decide +kernel), _, rfl, _, rfl, p2, z, R2, pr.2, d, rfl, h2, hb2, hd', fun u2 hu2 => ?_⟩
      obtain ⟨b, rfl, hb⟩ := turn_of hu2
      refine ⟨b, _, rfl, hb, rfl, _, _, rfl, _, _, rfl, rfl, ?_⟩
      refine ⟨_, rfl, _, rfl, by show 2 ≤ sizeLine; decide, fun t1 ht1 => ⟨_, rfl, by show 2 ≤ sizeLine; decide, fun t2 ht2 => q _ _ (Same.up (same_upd ht1) ht2) ?_⟩⟩
      refine Dp.tupNew (new_at ((same_upd ht1).free ht2) upd_same) (.cons (Dp.tupNew (new_at ht1 (same_upd ht2 _ _ upd_same)) (.cons (.int _) (.cons (.int _) .nil))) (.cons (.str _) .nil))
end
end K2
set_option Elab.async false
set_option linter.all false
set_option maxRecDepth 100000
set_option maxHeartbeats 8000000
namespace K2
open PySem PySem.Spec PyProof.Rows L2 FX
section
variable {P : Program} {w : World} {K : PySem.W.Frag} {mg : Str → Option Value} {base : Heap} {A : Ad}
def sp_behind (K : PySem.W.Frag) (A : Ad) : Sp := fun vs H Q E => ∃ (p q : Addr) (z : Str) (R1 R2 : Rows), vs = [.ref p, .ref q] ∧ IsM K A.C H p z R1 ∧ IsM K A.C H q z R2 ∧
  ((bfsR (zs z) R1 R2).2.length ≤ 6 → ∀ x H', Same H H' → IsM K A.C H' x z (bfsR (zs z) R1 R2).2 → Q (.ref x) H') ∧
  (6 < (bfsR (zs z) R1 R2).2.length → ∀ H', Same H H' → E (.ref A.X_TooLarge) none H')
/-- what stands between two turns of the search -/
structure BH (K : PySem.W.Frag) (H H' : Hp) (PL RL : Addr) (s : BS) : Prop where
  sm : Same H H'
  fr : H PL = none ∧ H RL = none
  ne : PL ≠ RL
  pl : ∃ xs, H' PL = some (.lst xs) ∧ DpAll K (New H (hid [PL, RL] H')) xs (s.1.map dP)
  rl : ∃ ys, H' RL = some (.lst ys) ∧ DpAll K (New H (hid [PL, RL] H')) ys (s.2.map rowD)
structure BW (K : PySem.W.Frag) (H H' : Hp) (PL RL WL : Addr) (s : BS) (ps : PS) (row : List (Nat × List Nat)) : Prop where
  sm : Same H H'
  fr : H PL = none ∧ H RL = none ∧ H WL = none
  ne : PL ≠ RL ∧ PL ≠ WL ∧ RL ≠ WL
  pl : ∃ xs, H' PL = some (.lst xs) ∧ DpAll K (New H (hid [PL, RL, WL] H')) xs (ps.map dP)
  rl : ∃ ys, H' RL = some (.lst ys) ∧ DpAll K (New H (hid [PL, RL, WL] H')) ys (s.2.map rowD)
  wl : ∃ ws, H' WL = some (.lst ws) ∧ DpAll K (New H (hid [PL, RL, WL] H')) ws (row.map turnD)
/-- other objects are made -/
theorem BW.same {H H' H'' : Hp} {PL RL WL : Addr} {s : BS} {ps : PS} {row : List (Nat × List Nat)} (b : BW K H H' PL RL WL s ps row) (e : Same H' H'') : BW K H H'' PL RL WL s ps row := by
  obtain ⟨sm, fr, ne, ⟨xs, x1, x2⟩, ⟨ys, y1, y2⟩, ⟨ws, w1, w2⟩⟩ := b
  have n := new_trans (H := H) (hid_same (ls := [PL, RL, WL]) fun b o _ h => e b o h)
  exact ⟨sm.trans e, fr, ne, ⟨xs, e _ _ x1, DpAll.same n x2⟩, ⟨ys, e _ _ y1, DpAll.same n y2⟩, ⟨ws, e _ _ w1, DpAll.same n w2⟩⟩
theorem BW.addP {H H' : Hp} {PL RL WL : Addr} {s : BS} {ps : PS} {row : List (Nat × List Nat)} {xs : List V} {x : V} {q : Nat × Nat} (b : BW K H H' PL RL WL s ps row) (hx : H' PL = some (.lst xs)) (h : Dp K (New H (hid [PL, RL, WL] H')) x (dP q)) :
    BW K H (upd H' PL (.lst (xs ++ [x]))) PL RL WL s (ps ++ [q]) row := by
  obtain ⟨sm, fr, ne, ⟨xs', x1, x2⟩, ⟨ys, y1, y2⟩, ⟨ws, w1, w2⟩⟩ := b
  have ex : xs' = xs := by rw [hx] at x1; injection x1 with x1; injection x1 with x1; exact x1.symm
  subst ex
  have n : hid [PL, RL, WL] (upd H' PL (.lst (xs' ++ [x]))) = hid [PL, RL, WL] H' := hid_upd (by simp)
  refine ⟨Same.set sm fr.1, fr, ne, ⟨_, upd_same, ?_⟩, ⟨ys, by rw [upd_ne ne.1.symm]; exact y1, by rw [n]; exact y2⟩, ⟨ws, by rw [upd_ne ne.2.1.symm]; exact w1, by rw [n]; exact w2⟩⟩
  rw [n, List.map_append]
  exact DpAll.app x2 (.cons h .nil)
theorem BW.addW {H H' : Hp} {PL RL WL : Addr} {s : BS} {ps : PS} {row : List (Nat × List Nat)} {ws : List V} {x : V} {q : Nat × List Nat} (b : BW K H H' PL RL WL s ps row) (hx : H' WL = some (.lst ws)) (h : Dp K (New H (hid [PL, RL, WL] H')) x (turnD q)) :
    BW K H (upd H' WL (.lst (ws ++ [x]))) PL RL WL s ps (row ++ [q]) := by
  obtain ⟨sm, fr, ne, ⟨xs', x1, x2⟩, ⟨ys, y1, y2⟩, ⟨ws', w1, w2⟩⟩ := b
  have ex : ws' = ws := by rw [hx] at w1; injection w1 with w1; injection w1 with w1; exact w1.symm
  subst ex
  have n : hid [PL, RL, WL] (upd H' WL (.lst (ws' ++ [x]))) = hid [PL, RL, WL] H' := hid_upd (by simp)
  refine ⟨Same.set sm fr.2.2, fr, ne, ⟨xs', by rw [upd_ne ne.2.1]; exact x1, by rw [n]; exact x2⟩, ⟨ys, by rw [upd_ne ne.2.2]; exact y1, by rw [n]; exact y2⟩, ⟨_, upd_same, ?_⟩⟩
  rw [n, List.map_append]
  exact DpAll.app w2 (.cons h .nil)
def lv_behind : Nat := 7
theorem ok_behind (T : Txt K mg A) : FnOk P w K mg base (L2.CX P w) lv_behind A.a_behind A.d_behind ["one", "other"] (sp_behind K A) := by
  refine T.f_behind.F.okX sc_behind (fun vs H Q E h => ?_) (fun cdv Ar outer s H vs Q E hr h => ?_)
  · obtain ⟨p, q, z, R1, R2, rfl, _⟩ := h
    rfl
  · obtain ⟨p, p2, z, R1, R2, rfl, h1, h2, qq, qe⟩ := h
    refine ⟨_, (pss_cons (ps_expr (pe_call (ok_check_machines T) (hr.mono (by decide)) (by rfl) T.f_check_machines.g T.f_check_machines.F.kp T.f_check_machines.b .nil pass0 (pa_cons (pv 0) (pa_cons (pv 1) pa_nil)))) (pss_cons (ps_set (i := 2) sc_behind.nd rfl (Or.inl rfl) (pe_lst (pa_cons (pe_tup (pa_cons pe_int (pa_cons pe_int pa_nil))) pa_nil))) (pss_cons (ps_set (i := 3) sc_behind.nd rfl (Or.inl rfl) (pe_lst pa_nil)) (pss_cons (ps_while (passes_of rfl) (pt_cmpR op_lt (pe_callB call_len_seq (by rfl) T.n_len (by decide +kernel) (pa_cons (pv 3) pa_nil)) (pe_callB call_len_seq (by rfl) T.n_len (by decide +kernel) (pa_cons (pv 2) pa_nil)) (nomark _)) (pss_cons (ps_set (i := 4) sc_behind.nd rfl (Or.inl rfl) (pe_lst pa_nil)) (pss_cons (ps_for (passes_of rfl) rfl (pi_str (pe_prop (pv 0) T.cl T.p_letters (ok_Machine_letters T) (hr.mono (by decide)) T.f_Machine_letters.b .nil pass0 rfl)) (pg_name (i := 5) sc_behind.nd rfl (Or.inl rfl)) (pss_cons (ps_asg (pe_call (ok_joined_turn T) (hr.mono (by decide)) (by rfl) T.f_joined_turn.g T.f_joined_turn.F.kp T.f_joined_turn.b .nil pass0 (pa_cons (pv 0) (pa_cons (pv 1) (pa_cons (pe_ix ix_list (pv 2) (pe_callB call_len_seq (by rfl) T.n_len (by decide +kernel) (pa_cons (pv 3) pa_nil)) (fun _ _ => rfl)) (pa_cons (pv 5) pa_nil))))) (pg_tup (by rfl) (pgs_cons (pg_name (i := 6) sc_behind.nd rfl (Or.inl rfl)) (pgs_cons (pg_name (i := 7) sc_behind.nd rfl (Or.inl rfl)) pgs_nil)))) (pss_cons (ps_if (pt_cmpR (op_notInD (units1 hr)) (pv 6) (pv 2) (by rfl)) (pss_one (ps_expr (pe_bm PySem.F.plainAttrs_list PySem.F.slot_list_append PySem.F.type_list_append mt_append (pv 2) (pa_cons (pv 6) pa_nil)))) pss_nil) (pss_one (ps_expr (pe_bm PySem.F.plainAttrs_list PySem.F.slot_list_append PySem.F.type_list_append mt_append (pv 4) (pa_cons (pe_tup (pa_cons (pe_bm PySem.F.plainAttrs_list PySem.F.slot_list_index PySem.F.type_list_index (mt_indexD (units1 hr)) (pv 2) (pa_cons (pv 6) pa_nil)) (pa_cons (pv 7) pa_nil))) pa_nil))))))) (pss_one (ps_expr (pe_bm PySem.F.plainAttrs_list PySem.F.slot_list_append PySem.F.type_list_append mt_append (pv 3) (pa_cons (pe_callTy call_tuple_of (by rfl) T.n_tuple (by decide +kernel) (pa_cons (pv 4) pa_nil)) pa_nil))))))) (pss_cons (ps_if (pt_cmpR op_gt (pe_callB call_len_seq (by rfl) T.n_len (by decide +kernel) (pa_cons (pv 3) pa_nil)) (pe_glob (v := v_MOST_STATES) rfl T.c_MOST_STATES ⟨_, rfl⟩) (nomark _)) (pss_one (ps_raise rfl (takes_of rfl rfl rfl rfl) (pmk_ownA PySem.F.excBase_ValueError T.xX_TooLarge T.gX_TooLarge T.kX_TooLarge (raises_own T.bX_TooLarge T.tX_TooLarge) rfl (by exact (pa_cons (pe_joined (.cons pe_str (.cons (pe_fmt (pe_glob (v := v_MOST_STATES) rfl T.c_MOST_STATES ⟨_, rfl⟩)) (.cons pe_str .nil)))) pa_nil))))) pss_nil) (pss_one (ps_ret (pe_make T.mkC (ok_Machine_init T) (hr.mono (by decide)) (by rfl) T.g_Machine T.f_Machine_init.b .nil pass0 (pa_cons (pe_prop (pv 0) T.cl T.p_letters (ok_Machine_letters T) (hr.mono (by decide)) T.f_Machine_letters.b .nil pass0 rfl) (pa_cons (pe_callTy call_tuple_of (by rfl) T.n_tuple (by decide +kernel) (pa_cons (pv 3) pa_nil)) pa_nil)))))))))), ?_⟩
    refine ⟨_, rfl, _, rfl, p, p2, z, R1, R2, rfl, h1, h2, ?_⟩
    refine ⟨by show 2 ≤ sizeLine; decide, fun t0 ht0 => ⟨by show 1 ≤ sizeLine; decide, fun PL hPL => ⟨Nat.zero_le _, fun RL hRL => ?_⟩⟩⟩
    have hz := h1.hz
    have b36 : R1.length * R2.length ≤ 36 := Nat.mul_le_mul h1.six h2.six
    refine ⟨fun m σ H' => ∃ s : BS, m = 36 - s.2.length ∧ BInv (zs z) R1 R2 s ∧ bfsR (zs z) R1 R2 = bfs (zs z) R1 R2 (36 - s.2.length) s ∧ BH K H H' PL RL s ∧ ∃ o4 o5 o6 o7, σ = [some (.ref p), some (.ref p2), some (.ref PL), some (.ref RL), o4, o5, o6, o7],
      ⟨36, ([(0, 0)], []), rfl, BInv.init h1.ok.pos h2.ok.pos, rfl, ?_, none, none, none, none, rfl⟩, ?_⟩
    · have n1 := ne_of_none (upd_same (H := H) (a := t0) (o := .tup [V.int 0, V.int 0])) hPL
      refine ⟨Same.up (Same.up (same_upd ht0) hPL) hRL, ⟨(same_upd ht0).free hPL, (Same.up (same_upd ht0) hPL).free hRL⟩, ne_of_none upd_same hRL, ⟨[.ref t0], same_upd hRL _ _ upd_same, ?_⟩, ⟨[], upd_same, .nil⟩⟩
      refine .cons (Dp.tupNew (new_hid_at ht0 ?_ (same_upd hRL _ _ (same_upd hPL _ _ upd_same))) (.cons (.int _) (.cons (.int _) .nil))) .nil
      have n2 := ne_of_none (same_upd hPL _ _ upd_same) hRL
      simp
      exact ⟨n1, n2⟩
    · rintro m σ H2 ⟨s, rfl, B, eb, bh, o4, o5, o6, o7, rfl⟩
      obtain ⟨sm, fr, ne, ⟨xs, hx, dx⟩, ⟨ys, hy, dy⟩⟩ := bh
      have lx : xs.length = s.1.length := by rw [DpAll.len dx, List.length_map]
      have ly : ys.length = s.2.length := by rw [DpAll.len dy, List.length_map]
      refine ⟨_, rfl, RL, ys, rfl, .inl (SqL.of hy), _, rfl, PL, xs, rfl, .inl (SqL.of hx), _, _, rfl, rfl, _, rfl, ?_⟩
      by_cases hlt : s.2.length < s.1.length
      · rw [show decide ((ys.length : Int) < (xs.length : Int)) = true from decide_eq_true (by omega)]
        have hle := nodup_le _ _ _ B.nd B.bd
        have B' := B.turn h1.ok h2.ok hlt
        have e36 : 36 - s.2.length = (36 - (turnB (zs z) R1 R2 s).2.length) + 1 := by
          have : (turnB (zs z) R1 R2 s).2.length = s.2.length + 1 := by
            show (s.2 ++ [_]).length = _
            rw [List.length_append, List.length_singleton]
          omega
        refine iteT ⟨fun σ' H' => BH K H H' PL RL (turnB (zs z) R1 R2 s) ∧ ∃ o4 o5 o6 o7, σ' = [some (.ref p), some (.ref p2), some (.ref PL), some (.ref RL), o4, o5, o6, o7], fun σ' H' ⟨bh', o'⟩ => ⟨36 - (turnB (zs z) R1 R2 s).2.length, by omega, turnB (zs z) R1 R2 s, rfl, B', ?_, bh', o'⟩, ?_⟩
        · rw [eb, e36, bfs_step hlt]
        · refine ⟨Nat.zero_le _, fun WL hWL => ?_⟩
          have wl0 : H WL = none := sm.free hWL
          have nPW : PL ≠ WL := ne_of_none hx hWL
          have nRW : RL ≠ WL := ne_of_none hy hWL
          have sW := Same.up sm hWL (o := .lst [])
          have hm : Same (hid [PL, RL] H2) (hid [PL, RL, WL] (upd H2 WL (.lst []))) := (hid_more hWL).trans (hid_less (by simp))
          have bw0 : BW K H (upd H2 WL (.lst [])) PL RL WL s s.1 [] := ⟨sW, ⟨fr.1, fr.2, wl0⟩, ⟨ne, nPW, nRW⟩, ⟨xs, same_upd hWL _ _ hx, DpAll.same (new_trans hm) dx⟩, ⟨ys, same_upd hWL _ _ hy, DpAll.same (new_trans hm) dy⟩, ⟨[], upd_same, .nil⟩⟩
          have h1W := h1.same sW
          obtain ⟨dxx, r, hp, hd⟩ := h1W.at_
          have hpr : s.1[s.2.length]? = some (s.1.getD s.2.length (0, 0)) := by
            rw [List.getD_eq_getElem?_getD, List.getElem?_eq_getElem hlt]
            rfl
          have hprb := B.bd _ (List.mem_of_getElem? hpr)
          generalize hpe : s.1.getD s.2.length (0, 0) = pr at hpr hprb
          refine ⟨_, rfl, p, dxx, _, rfl, hp, p, z, R1, rfl, h1W, z, rfl, ?_⟩
          refine for_it walk_str (fun i σ H' => BW K H H' PL RL WL s (rowS (jt (zs z) R1 R2 pr) ((zs z).take i) s.1 []).1 (rowS (jt (zs z) R1 R2 pr) ((zs z).take i) s.1 []).2 ∧ ∃ o5 o6 o7, σ = [some (.ref p), some (.ref p2), some (.ref PL), some (.ref RL), some (.ref WL), o5, o6, o7])
            ⟨bw0, _, _, _, rfl⟩ (fun _ _ _ _ _ => trivial) ?_ ?_
          · rintro i y σ H4 H5 hi ⟨bw, o5, o6, o7, rfl⟩ ⟨rfl, c, hc, rfl⟩
            have hcz := str_at hc
            have hcm := List.mem_of_getElem? hcz
            have htk := take_succ' hcz
            obtain ⟨k1, k2, ⟨tt, hps⟩, rr, hrow, hrl, _⟩ := rowS_spec (jt (zs z) R1 R2 pr) (fun p => p.1 < R1.length ∧ p.2 < R2.length) ((zs z).take i) s.1 [] (fun d hd => (jt_bd h1.ok h2.ok hprb (List.mem_of_mem_take hd)).1) B.nd B.bd
            generalize hpp : (rowS (jt (zs z) R1 R2 pr) ((zs z).take i) s.1 []).1 = ps at bw k1 k2 hps
            generalize hrr : (rowS (jt (zs z) R1 R2 pr) ((zs z).take i) s.1 []).2 = row at bw hrow
            have hnext : rowS (jt (zs z) R1 R2 pr) ((zs z).take (i + 1)) s.1 [] = (addP ps (jt (zs z) R1 R2 pr c).1, row ++ [((addP ps (jt (zs z) R1 R2 pr c).1).idxOf (jt (zs z) R1 R2 pr c).1, (jt (zs z) R1 R2 pr c).2)]) := by
              rw [htk, rowS_app, hpp, hrr]
            obtain ⟨⟨xs4, hx4, dx4⟩, ⟨ys4, hy4, dy4⟩⟩ := And.intro bw.pl bw.rl
            have ly4 : ys4.length = s.2.length := by rw [DpAll.len dy4, List.length_map]
            have hpr4 : ps[ys4.length]? = some pr := by
              rw [hps, ly4, List.getElem?_append_left hlt]
              exact hpr
            obtain ⟨v, hv1, hv2⟩ := DpAll.get dx4 (i := ys4.length) (d := dP pr) (by rw [List.getElem?_map, hpr4]; rfl)
            have hjb := jt_bd h1.ok h2.ok hprb hcm
            refine ⟨_, rfl, _, rfl, _, rfl, _, rfl, RL, ys4, rfl, .inl (SqL.of hy4), PL, xs4, _, v, rfl, rfl, SqL.of hx4, atI_nat hv1, _, rfl, p, p2, v, c, z, R1, R2, pr, rfl, h1.same bw.sm, h2.same bw.sm, Dp.same ((new_sub _ _).trans (hid_sub _ _)) hv2, hprb.1, hprb.2, hcm, fun v' H6 s6 hv' => ?_⟩
            have bw6 := bw.same s6
            have inn : Same (New H5 H6) (New H (hid [PL, RL, WL] H6)) := new_in bw.sm (by
              obtain ⟨ws4, hw4, _⟩ := bw.wl
              simp [hx4, hy4, hw4])
            generalize hq : (jt (zs z) R1 R2 pr c).1 = q at hnext hv' hjb
            generalize ho : (jt (zs z) R1 R2 pr c).2 = out at hnext hv' hjb
            obtain ⟨t, x, y', rfl, hts, hxq, hyo⟩ := two_of hv'
            obtain rfl := Dp.strOf hyo
            have hxq' := Dp.same inn hxq
            obtain ⟨xs6, hx6, dx6⟩ := bw6.pl
            refine ⟨t, _, rfl, SqT.same (new_sub _ _) hts, rfl, _, _, rfl, _, _, rfl, rfl, ?_⟩
            refine ⟨_, rfl, _, rfl, dP q, _, dp_new hxq, Dp.lstNew hx6 (DpAll.same ((new_sub _ _).trans (hid_sub _ _)) dx6), dP_shaped q, dPs_shaped ps, _, rfl, ?_⟩
            have lps : ps.length ≤ 36 := by
              have := nodup_le _ _ _ k1 k2
              omega
            have lxs6 : xs6.length < sizeLine := by
              rw [DpAll.len dx6, List.length_map]
              exact Nat.lt_of_le_of_lt lps (by decide)
            have lrow : row.length ≤ 4 := by
              rw [hrow, List.nil_append, hrl, List.length_take, zs_length]
              have := (l8_len z hz).2
              omega
            rw [dPs_any]
            by_cases hqm : q ∈ ps
            · rw [show (!decide (q ∈ ps)) = false by simp [hqm]]
              refine iteF ?_
              have ea : addP ps q = ps := if_pos hqm
              rw [ea] at hnext
              obtain ⟨ws6, hw6, dw6⟩ := bw6.wl
              obtain ⟨f1, f2, f3⟩ := index_facts hqm
              refine ⟨_, rfl, .inl ⟨rfl, _, SqL.of hw6⟩, _, rfl, .inl ⟨rfl, _, SqL.of hx6⟩, _, rfl, PL, x, dP q, _, _, dP q, rfl, rfl, Dp.lstNew hx6 (DpAll.same ((new_sub _ _).trans (hid_sub _ _)) dx6), dp_new hxq, dPs_shaped ps, dP_shaped q, f1, f2, f3, _, rfl, by show 2 ≤ sizeLine; decide, fun t2 ht2 => ?_⟩
              have st2 := same_upd (o := .tup [V.int ((ps.idxOf q : Nat) : Int), V.str (S out)]) ht2
              have bw7 := bw6.same st2
              refine ⟨WL, ws6, _, rfl, rfl, st2 _ _ hw6, ?_, ?_⟩
              · rw [DpAll.len dw6, List.length_map]
                exact Nat.lt_of_le_of_lt lrow (by decide)
              · rw [hnext]
                exact ⟨bw7.addW (q := (ps.idxOf q, out)) (st2 _ _ hw6) (Dp.tupNew (new_hid_at (bw6.sm.free ht2) (by simp; exact ⟨(ne_of_none hx6 ht2).symm, (ne_of_none (bw6.rl.choose_spec.1) ht2).symm, (ne_of_none hw6 ht2).symm⟩) upd_same) (.cons (.int _) (.cons (.str _) .nil))), _, _, _, rfl⟩
            · rw [show (!decide (q ∈ ps)) = true by simp [hqm]]
              have ea : addP ps q = ps ++ [q] := if_neg hqm
              rw [ea] at hnext
              refine iteT ⟨_, rfl, .inl ⟨rfl, _, SqL.of hx6⟩, _, rfl, PL, xs6, x, rfl, rfl, hx6, lxs6, ?_⟩
              have bw6' := bw6.addP hx6 hxq'
              generalize hH7 : upd H6 PL (.lst (xs6 ++ [x])) = H7 at bw6'
              obtain ⟨xs7, hx7, dx7⟩ := bw6'.pl
              obtain ⟨ws6, hw6, dw6⟩ := bw6'.wl
              have hqm' : q ∈ ps ++ [q] := by simp
              have hxq7 : Dp K H7 x (dP q) := by
                rw [← hH7]
                refine Dp.same ((new_sub _ _).trans ?_) hxq'
                rw [← hid_upd (l := PL) (o := .lst (xs6 ++ [x])) (by simp)]
                exact hid_sub _ _
              obtain ⟨f1, f2, f3⟩ := index_facts hqm'
              refine ⟨_, rfl, .inl ⟨rfl, _, SqL.of hw6⟩, _, rfl, .inl ⟨rfl, _, SqL.of hx7⟩, _, rfl, PL, x, dP q, _, _, dP q, rfl, rfl, Dp.lstNew hx7 (DpAll.same ((new_sub _ _).trans (hid_sub _ _)) dx7), hxq7, dPs_shaped _, dP_shaped q, f1, f2, f3, _, rfl, by show 2 ≤ sizeLine; decide, fun t2 ht2 => ?_⟩
              have st2 := same_upd (o := .tup [V.int (((ps ++ [q]).idxOf q : Nat) : Int), V.str (S out)]) ht2
              have bw7 := bw6'.same st2
              refine ⟨WL, ws6, _, rfl, rfl, st2 _ _ hw6, ?_, ?_⟩
              · rw [DpAll.len dw6, List.length_map]
                exact Nat.lt_of_le_of_lt lrow (by decide)
              · rw [hnext]
                exact ⟨bw7.addW (q := ((ps ++ [q]).idxOf q, out)) (st2 _ _ hw6) (Dp.tupNew (new_hid_at (bw6'.sm.free ht2) (by simp; exact ⟨(ne_of_none hx7 ht2).symm, (ne_of_none (bw6'.rl.choose_spec.1) ht2).symm, (ne_of_none hw6 ht2).symm⟩) upd_same) (.cons (.int _) (.cons (.str _) .nil))), _, _, _, rfl⟩
          · rintro σ H4 ⟨bw, o5, o6, o7, rfl⟩
            have e0 : (zs z).take z.cps.size = zs z := List.take_of_length_le (by simp [zs])
            rw [e0] at bw
            obtain ⟨xs4, hx4, dx4⟩ := bw.pl
            obtain ⟨ys4, hy4, dy4⟩ := bw.rl
            obtain ⟨ws4, hw4, dw4⟩ := bw.wl
            refine ⟨_, rfl, .inl ⟨rfl, _, SqL.of hy4⟩, _, rfl, WL, ws4, rfl, .inl ⟨SqL.of hw4, fun t ht => ?_⟩⟩
            have st := same_upd (o := .tup ws4) ht
            have tR : t ≠ RL := (ne_of_none hy4 ht).symm
            have tP : t ≠ PL := (ne_of_none hx4 ht).symm
            refine ⟨RL, ys4, _, rfl, rfl, st _ _ hy4, ?_, ?_⟩
            · rw [DpAll.len dy4, List.length_map]
              exact Nat.lt_of_lt_of_le hlt (Nat.le_trans hle (Nat.le_trans b36 (by decide)))
            · have n : hid [PL, RL] (upd (upd H4 t (.tup ws4)) RL (.lst (ys4 ++ [V.ref t]))) = hid [PL, RL] (upd H4 t (.tup ws4)) := hid_upd (by simp)
              have up : Same (New H (hid [PL, RL, WL] H4)) (New H (hid [PL, RL] (upd H4 t (.tup ws4)))) := new_trans ((hid_less (by simp)).trans (hid_up ht))
              refine ⟨⟨Same.set (bw.sm.trans st) fr.2, fr, ne, ⟨xs4, by rw [upd_ne ne]; exact st _ _ hx4, ?_⟩, ⟨_, upd_same, ?_⟩⟩, _, _, _, _, rfl⟩
              · rw [n]
                have := DpAll.same up dx4
                rw [← hpe] at this
                exact this
              · rw [n]
                show DpAll K _ _ ((s.2 ++ [(rowS (jt (zs z) R1 R2 (s.1.getD s.2.length (0, 0))) (zs z) s.1 []).2]).map rowD)
                rw [List.map_append, hpe]
                exact DpAll.app (DpAll.same up dy4) (.cons (Dp.tupNew (new_at (bw.sm.free ht) (by rw [hid_out (by simp; exact ⟨tP, tR⟩)]; exact upd_same)) (DpAll.same up dw4)) .nil)
      · rw [show decide ((ys.length : Int) < (xs.length : Int)) = false from decide_eq_false (by omega)]
        have ebs : bfsR (zs z) R1 R2 = s := by rw [eb, bfs_done hlt]
        rw [ebs] at qq qe
        refine iteF ⟨_, rfl, RL, ys, rfl, .inl (SqL.of hy), _, _, rfl, rfl, _, rfl, ?_⟩
        by_cases h6 : 6 < s.2.length
        · rw [show decide ((6 : Int) < (ys.length : Int)) = true from decide_eq_true (by omega)]
          refine iteT ⟨_, rfl, by decide +kernel, .inr ⟨6, rfl, by decide, _, rfl, by decide +kernel, _, rfl, by decide +kernel, by decide, ?_⟩⟩
          exact qe h6 _ sm
        · rw [show decide ((6 : Int) < (ys.length : Int)) = false from decide_eq_false (by omega)]
          have h1' := h1.same sm
          obtain ⟨dxx, r, hp, hd⟩ := h1'.at_
          refine iteF ⟨_, rfl, p, dxx, _, rfl, hp, p, z, R1, rfl, h1', _, rfl, RL, ys, rfl, .inl ⟨SqL.of hy, fun l hl => ?_⟩⟩
          refine mk_M hz (B.ok h1.ok h2.ok hlt) (by omega) (dp_new (H0 := H) (tup_new (ls := [PL, RL]) sm hl dy)) fun x H6 _ s6 hM => qq (by omega) x H6 (sm.trans ((same_upd hl).trans s6)) hM
end
end K2
set_option Elab.async false
set_option linter.all false
set_option maxRecDepth 100000
set_option maxHeartbeats 4000000
namespace K2
open PySem PySem.Spec PyProof.Rows L2 FX
section
variable {P : Program} {w : World} {K : PySem.W.Frag} {mg : Str → Option Value} {base : Heap} {A : Ad}
/-! what the law draws -/
theorem pos1000003 : (0 : Int) < 1000003 := by decide
theorem pos999983 : (0 : Int) < 999983 := by decide
theorem pos65521 : (0 : Int) < 65521 := by decide
theorem pos2147483647 : (0 : Int) < 2147483647 := by decide
theorem pos2147483629 : (0 : Int) < 2147483629 := by decide
theorem pos8 : (0 : Int) < 8 := by decide
theorem pos5 : (0 : Int) < 5 := by decide
theorem pos9 : (0 : Int) < 9 := by decide
theorem pos3 : (0 : Int) < 3 := by decide
theorem pos500 : (0 : Int) < 500 := by decide
theorem pos81 : (0 : Int) < 81 := by decide
theorem pos16 : (0 : Int) < 16 := by decide
theorem pos2 : (0 : Int) < 2 := by decide
theorem cut_te {te : TE} {σ : L2.St} {H : Hp} {Q : VK} (G : V → Hp → Prop) (h : ∀ x H1, G x H1 → Q x H1) (k : ∀ Q' : VK, (∀ x H1, G x H1 → Q' x H1) → te σ H Q') : te σ H Q := k Q h
def Scr (K : PySem.W.Frag) (H : Hp) (a : Addr) (ns : List Int) : Prop := SqL K H a (ns.map V.int) ∧ ns.length ≤ 63
theorem Scr.same {H H' : Hp} {a : Addr} {ns : List Int} (h : Scr K H a ns) (s : Same H H') : Scr K H' a ns := ⟨s.seq h.1, h.2⟩
theorem cutAll (xs : List V) (h : xs.length ≤ 63) : cutV xs none (some 63) = xs := by
  unfold cutV
  rw [HT.sIx_none, show HT.sIx xs.length xs.length (some 63) = min 63 xs.length from HT.sIx_nat xs.length xs.length 63, Nat.min_eq_right h, List.drop_zero, Nat.sub_zero]
  exact List.take_length
theorem ints_eqv (ns : List Int) : PyData.eqv (.list (ns.map PyData.int)) (.list []) = ns.isEmpty := by
  cases ns <;> simp [PyData.eqv, PyData.eqvAll]
theorem ints_shaped (ns : List Int) : SeqAt.shaped (.list (ns.map PyData.int)) = true := by
  refine shaped_of ?_ ?_
  · simp only [PyData.canLay0]
    exact layAll_of fun d hd => by obtain ⟨p, _, rfl⟩ := List.mem_map.mp hd; simp [PyData.canLay0]
  · have h1 := depthAll_of (ds := ns.map PyData.int) (n := 0) fun d hd => by obtain ⟨p, _, rfl⟩ := List.mem_map.mp hd; simp [PyData.depth]
    simp only [PyData.depth]
    omega
def sp_number (K : PySem.W.Frag) : Sp := fun vs H Q _ => ∃ (a : Addr) (ns : List Int) (k : Int), vs = [.ref a, .int k] ∧ Scr K H a ns ∧ 0 ≤ k ∧ k ≤ 10000 ∧ ∀ r H', Same H H' → 0 ≤ r → r < 4611686018427387904 → Q (.int r) H'
theorem ok_law_number (T : Txt K mg A) : FnOk P w K mg base CX0 1 A.a_law_number A.d_law_number ["script", "index"] (sp_number K) := by
  refine T.f_law_number.F.ok sc_law_number (fun vs H Q E h => ?_) (fun cdv Ar outer s H vs Q E hr h => ?_)
  · obtain ⟨a, ns, k, rfl, _⟩ := h
    rfl
  · obtain ⟨a, ns, k, rfl, ⟨hS, hn⟩, k0, k1, q⟩ := h
    refine ⟨_, (pss_cons (ps_set (i := 2) sc_law_number.nd rfl (Or.inl rfl) (pe_ifExp (pt_cmpR (op_neD hr.units) (pv 0) (pe_lst pa_nil) (nomark _)) (pe_slice sl_list (pv 0) po_none (po_some pe_int)) (pe_lst (pa_cons pe_int pa_nil)))) (pss_cons (ps_set (i := 3) sc_law_number.nd rfl (Or.inl rfl) (pe_op op_add (pe_ix ix_list (pv 2) (pe_op op_mod (pe_callTy call_int1 (by rfl) T.n_int (by decide +kernel) (pa_cons (pv 1) pa_nil)) (pe_callB call_len_seq (by rfl) T.n_len (by decide +kernel) (pa_cons (pv 2) pa_nil))) (fun _ _ => rfl)) (pe_op op_mul pe_int (pe_op op_fdiv (pv 1) (pe_callB call_len_seq (by rfl) T.n_len (by decide +kernel) (pa_cons (pv 2) pa_nil)))))) (pss_cons (ps_par (i := 4) (j := 5) (by rfl) sc_law_number.nd rfl rfl (by decide) rfl rfl (pa_cons (pe_op op_mod (pe_callTy call_int1 (by rfl) T.n_int (by decide +kernel) (pa_cons (pv 3) pa_nil)) pe_int) (pa_cons (pe_op op_mod (pe_callTy call_int1 (by rfl) T.n_int (by decide +kernel) (pa_cons (pe_op op_fdiv (pv 3) pe_int) pa_nil)) pe_int) pa_nil)) (by rfl)) (pss_cons (ps_set (i := 6) sc_law_number.nd rfl (Or.inl rfl) (pe_op op_mod (pe_callTy call_int1 (by rfl) T.n_int (by decide +kernel) (pa_cons (pe_callB (cr_sum rfl) (by rfl) T.n_sum (by decide +kernel) (pa_cons (pv 2) pa_nil)) pa_nil)) pe_int)) (pss_cons (ps_set (i := 7) sc_law_number.nd rfl (Or.inl rfl) (pe_op op_mod (pe_callTy call_int1 (by rfl) T.n_int (by decide +kernel) (pa_cons (pe_op op_add (pe_op op_add (pe_op op_mul (pe_op op_add (pv 4) (pe_op op_mul pe_int (pv 1))) pe_int) (pe_op op_mul pe_int (pv 5))) (pv 6)) pa_nil)) pe_int)) (pss_one (ps_ret (pe_op op_add (pe_op op_mul (pe_op op_mod (pe_callTy call_int1 (by rfl) T.n_int (by decide +kernel) (pa_cons (pe_op op_mul (pv 7) (pe_op op_add (pe_op op_add (pv 7) (pe_op op_mul pe_int (pv 1))) pe_int)) pa_nil)) pe_int) pe_int) (pv 5))))))))), ?_⟩
    unfold tSeq
    unfold tAsg
    refine cut_te (fun x H1 => ∃ (l : Addr) (cs : List Int), x = .ref l ∧ Same H H1 ∧ SqL K H1 l (cs.map V.int) ∧ 1 ≤ cs.length ∧ cs.length ≤ 63) ?_ ?_
    · rintro _ H1 ⟨l, cs, rfl, s1, hl, c1, c63⟩
      have lc : (cs.map V.int).length = cs.length := by simp
      have hm0 : 0 ≤ k % (cs.length : Int) := Int.emod_nonneg _ (by omega)
      have hm1 : k % (cs.length : Int) < cs.length := Int.emod_lt_of_pos _ (by omega)
      obtain ⟨j, hj⟩ : ∃ j : Nat, k % (cs.length : Int) = (j : Int) := ⟨(k % (cs.length : Int)).toNat, by omega⟩
      have hjl : j < cs.length := by omega
      have hat : atI (cs.map V.int) (k % ((cs.map V.int).length : Int)) = some (.int cs[j]) := by
        rw [lc, hj]
        refine atI_nat ?_
        rw [List.getElem?_map, List.getElem?_eq_getElem hjl]
        rfl
      have hpos : (0 : Int) < ((cs.map V.int).length : Int) := by rw [lc]; omega
      have hbig : ((cs.map V.int).length : Int) < 1073741824 := by rw [lc]; omega
      refine ⟨_, rfl, _, rfl, .inl ⟨_, rfl, _, rfl, l, _, rfl, .inl hl, k, _, rfl, rfl, hpos, l, _, _, _, rfl, rfl, hl, hat, _, rfl, _, rfl, l, _, rfl, .inl hl, k, _, rfl, rfl, ⟨hpos, hbig⟩, 13, _, rfl, rfl, .inl ⟨by decide, by decide⟩, _, _, rfl, rfl, ?_⟩⟩
      generalize cs[j] + 13 * (k / ((cs.map V.int).length : Int)) = cell
      refine ⟨_, rfl, .inl ⟨_, rfl, _, _, rfl, rfl, pos1000003, _, rfl, _, _, rfl, rfl, ⟨by decide, by decide⟩, .inl ⟨_, rfl, _, _, rfl, rfl, pos999983, _, _, rfl, ?_⟩⟩⟩
      have a1 : 0 ≤ cell % 1000003 := Int.emod_nonneg _ (by decide)
      have a2 : cell % 1000003 < 1000003 := Int.emod_lt_of_pos _ (by decide)
      have b1 : 0 ≤ cell / 1000003 % 999983 := Int.emod_nonneg _ (by decide)
      have b2 : cell / 1000003 % 999983 < 999983 := Int.emod_lt_of_pos _ (by decide)
      generalize cell % 1000003 = low at a1 a2
      generalize cell / 1000003 % 999983 = high at b1 b2
      refine ⟨_, rfl, l, cs, rfl, hl, .inl ⟨_, rfl, _, _, rfl, rfl, pos65521, ?_⟩⟩
      generalize cs.sum % 65521 = total
      refine ⟨_, rfl, _, rfl, _, _, rfl, rfl, .inl ⟨by decide, by decide⟩, _, _, rfl, rfl, _, _, rfl, rfl, .inr ⟨by decide, by decide⟩, _, rfl, _, _, rfl, rfl, .inl ⟨by decide, by decide⟩, _, _, rfl, rfl, _, rfl, _, _, rfl, rfl, .inl ⟨_, rfl, _, _, rfl, rfl, pos2147483647, ?_⟩⟩
      generalize hB : ((low + 977 * k) * 48271 + 31 * high + total) % 2147483647 = blend
      have c1 : 0 ≤ blend := by rw [← hB]; exact Int.emod_nonneg _ (by decide)
      have c2 : blend < 2147483647 := by rw [← hB]; exact Int.emod_lt_of_pos _ (by decide)
      refine ⟨_, rfl, _, rfl, _, rfl, _, _, rfl, rfl, .inl ⟨by decide, by decide⟩, _, _, rfl, rfl, _, _, rfl, rfl, _, _, rfl, rfl, .inl ⟨by omega, by omega⟩, .inl ⟨_, rfl, _, _, rfl, rfl, pos2147483629, _, _, rfl, rfl, .inr ⟨by decide, by decide⟩, _, rfl, _, _, rfl, rfl, ?_⟩⟩
      have d1 : 0 ≤ blend * (blend + 31 * k + 7) % 2147483629 := Int.emod_nonneg _ (by decide)
      have d2 : blend * (blend + 31 * k + 7) % 2147483629 < 2147483629 := Int.emod_lt_of_pos _ (by decide)
      exact q _ _ s1 (by omega) (by omega)
    · intro Q' hQ
      refine ⟨_, rfl, Nat.zero_le _, fun e he => ⟨.list (ns.map PyData.int), .list [], .lst ((same_upd he).seq hS) (dpInts ns), Dp.lstNew upd_same .nil, ints_shaped ns, by decide, _, rfl, ?_⟩⟩
      rw [ints_eqv]
      cases ns with
      | nil =>
        refine iteF ⟨by show 1 ≤ sizeLine; decide, fun l hl => hQ _ _ ⟨l, [5], rfl, Same.up (same_upd he) hl, .inl (.inl upd_same), by decide, by decide⟩⟩
      | cons n r =>
        refine iteT ⟨_, rfl, 63, rfl, a, _, rfl, (same_upd he).seq hS, fun l hl => hQ _ _ ⟨l, n :: r, rfl, Same.up (same_upd he) hl, .inl (.inl ?_), by simp, hn⟩⟩
        rw [cutAll _ (by rw [List.length_map]; exact hn)]
        exact upd_same
def sp_lletters (K : PySem.W.Frag) : Sp := fun vs H Q _ => ∃ (a : Addr) (ns : List Int) (k : Int), vs = [.ref a, .int k] ∧ Scr K H a ns ∧ 0 ≤ k ∧ k ≤ 10000 ∧ ∀ z H', Same H H' → z ∈ L8 → Q (.str z) H'
theorem l8_at : ∀ j : Nat, j < 8 → ∃ z, ([("ab" : Str), "ba", "abc", "_ab", "Aa", "cab_", "ab", "Zz_"][j]?) = some z ∧ z ∈ L8
  | 0, _ => ⟨_, rfl, by decide +kernel⟩
  | 1, _ => ⟨_, rfl, by decide +kernel⟩
  | 2, _ => ⟨_, rfl, by decide +kernel⟩
  | 3, _ => ⟨_, rfl, by decide +kernel⟩
  | 4, _ => ⟨_, rfl, by decide +kernel⟩
  | 5, _ => ⟨_, rfl, by decide +kernel⟩
  | 6, _ => ⟨_, rfl, by decide +kernel⟩
  | 7, _ => ⟨_, rfl, by decide +kernel⟩
  | n + 8, h => absurd h (by omega)
theorem ok_law_letters (T : Txt K mg A) : FnOk P w K mg base CX0 2 A.a_law_letters A.d_law_letters ["script", "at"] (sp_lletters K) := by
  refine T.f_law_letters.F.ok sc_law_letters (fun vs H Q E h => ?_) (fun cdv Ar outer s H vs Q E hr h => ?_)
  · obtain ⟨a, ns, k, rfl, _⟩ := h
    rfl
  · obtain ⟨a, ns, k, rfl, hS, k0, k1, q⟩ := h
    refine ⟨_, (pss_one (ps_ret (pe_ix ix_tup (pe_tup (pa_cons pe_str (pa_cons pe_str (pa_cons pe_str (pa_cons pe_str (pa_cons pe_str (pa_cons pe_str (pa_cons pe_str (pa_cons pe_str pa_nil))))))))) (pe_op op_mod (pe_callTy call_int1 (by rfl) T.n_int (by decide +kernel) (pa_cons (pe_call (ok_law_number T) (hr.mono (by decide)) (by rfl) T.f_law_number.g T.f_law_number.F.kp T.f_law_number.b .nil pass0 (pa_cons (pv 0) (pa_cons (pv 1) pa_nil))) pa_nil)) pe_int) (fun _ _ => rfl)))), ?_⟩
    refine ⟨by show 8 ≤ sizeLine; decide, fun t ht => ⟨_, rfl, _, rfl, a, ns, k, rfl, hS.same (same_upd ht), k0, k1, fun r H2 s2 r0 r1 => .inl ⟨_, rfl, _, _, rfl, rfl, pos8, ?_⟩⟩⟩
    have m0 : 0 ≤ r % 8 := Int.emod_nonneg _ (by decide)
    have m1 : r % 8 < 8 := Int.emod_lt_of_pos _ (by decide)
    obtain ⟨j, hj⟩ : ∃ j : Nat, r % 8 = (j : Int) := ⟨(r % 8).toNat, by omega⟩
    obtain ⟨z, hz1, hz2⟩ := l8_at j (by omega)
    refine ⟨t, _, _, .str z, rfl, rfl, .inl (.inl (s2 _ _ upd_same)), ?_, q z _ ((same_upd ht).trans s2) hz2⟩
    rw [hj]
    refine atI_nat ?_
    show ([("ab" : Str), "ba", "abc", "_ab", "Aa", "cab_", "ab", "Zz_"].map V.str)[j]? = _
    rw [List.getElem?_map, hz1]
    rfl
end
end K2
set_option Elab.async false
set_option linter.all false
set_option maxRecDepth 100000
set_option maxHeartbeats 4000000
namespace K2
open PySem PySem.Spec PyProof.Rows L2 FX
section
variable {P : Program} {w : World} {K : PySem.W.Frag} {mg : Str → Option Value} {base : Heap} {A : Ad}
theorem zs_app (x y : Str) : zs (x ++ y) = zs x ++ zs y := by
  show (x.cps ++ y.cps).toList = _
  rw [Array.toList_append]
  rfl
theorem len_app (x y : Str) : (x ++ y).length = x.length + y.length := by
  rw [← zs_length, zs_app, List.length_append, zs_length, zs_length]
/-- a letter at a drawn place -/
theorem letter_at {z : Str} (hz : z ∈ L8) (r : Int) : ∃ c, c ∈ zs z ∧ atI z.cps.toList (r % (z.length : Int)) = some c := by
  have hl := (l8_len z hz).1
  have m0 : 0 ≤ r % (z.length : Int) := Int.emod_nonneg _ (by omega)
  have m1 : r % (z.length : Int) < z.length := Int.emod_lt_of_pos _ (by omega)
  obtain ⟨j, hj⟩ : ∃ j : Nat, r % (z.length : Int) = (j : Int) := ⟨(r % (z.length : Int)).toNat, by omega⟩
  have hjl : j < (zs z).length := by rw [zs_length]; omega
  refine ⟨(zs z)[j], List.getElem_mem hjl, ?_⟩
  rw [hj]
  exact atI_nat (List.getElem?_eq_getElem hjl)
theorem l8_pos {z : Str} (hz : z ∈ L8) : (0 : Int) < (z.length : Int) := by
  have := (l8_len z hz).1
  omega
def sp_lvalue (K : PySem.W.Frag) : Sp := fun vs H Q _ => ∃ (a : Addr) (ns : List Int) (k : Int) (z : Str) (m : Nat), vs = [.ref a, .int k, .str z, .int m] ∧ Scr K H a ns ∧ 0 ≤ k ∧ k ≤ 10000 ∧ z ∈ L8 ∧ m ≤ 100 ∧
  ∀ x H', Same H H' → x.length ≤ m → (∀ c ∈ zs x, c ∈ zs z) → Q (.str x) H'
theorem ok_law_value (T : Txt K mg A) : FnOk P w K mg base CX0 2 A.a_law_value A.d_law_value ["script", "at", "letters", "most"] (sp_lvalue K) := by
  refine T.f_law_value.F.ok sc_law_value (fun vs H Q E h => ?_) (fun cdv Ar outer s H vs Q E hr h => ?_)
  · obtain ⟨a, ns, k, z, m, rfl, _⟩ := h
    rfl
  · obtain ⟨a, ns, k, z, m, rfl, hS, k0, k1, hz, hm, q⟩ := h
    refine ⟨_, (pss_cons (ps_par (i := 4) (j := 5) (by rfl) sc_law_value.nd rfl rfl (by decide) rfl rfl (pa_cons (pe_callTy call_int1 (by rfl) T.n_int (by decide +kernel) (pa_cons (pe_call (ok_law_number T) (hr.mono (by decide)) (by rfl) T.f_law_number.g T.f_law_number.F.kp T.f_law_number.b .nil pass0 (pa_cons (pv 0) (pa_cons (pv 1) pa_nil))) pa_nil)) (pa_cons pe_str pa_nil)) (by rfl)) (pss_cons (ps_for PassesOwn.never rfl (pi_range1 (by rfl) T.n_range (pa_cons (pe_op op_mod (pe_callTy call_int1 (by rfl) T.n_int (by decide +kernel) (pa_cons (pv 4) pa_nil)) (pe_op op_add (pv 3) pe_int)) pa_nil)) (pg_name (i := 6) sc_law_value.nd rfl (Or.inl rfl)) (pss_one (ps_set (i := 5) sc_law_value.nd rfl (Or.inl rfl) (pe_op op_add_str (pv 5) (pe_ix ix_str (pv 2) (pe_op op_mod (pe_callTy call_int1 (by rfl) T.n_int (by decide +kernel) (pa_cons (pe_op op_fdiv (pv 4) (pe_op op_add pe_int (pe_op op_mul pe_int (pv 6)))) pa_nil)) (pe_callB call_len_str (by rfl) T.n_len (by decide +kernel) (pa_cons (pv 2) pa_nil))) (fun _ _ => rfl)))))) (pss_one (ps_ret (pv 5))))), ?_⟩
    refine ⟨_, rfl, _, rfl, a, ns, k, rfl, hS, k0, k1, fun r H1 s1 r0 r1 => .inl ⟨_, rfl, _, _, rfl, ?_⟩⟩
    have p0 : (0 : Int) < (m : Int) + 1 := by omega
    have m0 : 0 ≤ r % ((m : Int) + 1) := Int.emod_nonneg _ (by omega)
    have m1 : r % ((m : Int) + 1) < (m : Int) + 1 := Int.emod_lt_of_pos _ p0
    refine ⟨_, rfl, .inl ⟨_, rfl, _, rfl, _, _, rfl, rfl, _, _, rfl, rfl, p0, ?_⟩⟩
    refine ⟨r % ((m : Int) + 1), rfl, by omega, by omega, for_range (lo := 0) (n := (r % ((m : Int) + 1)).toNat) (fun i σ H' => Same H H' ∧ ∃ x o, σ = [some (.ref a), some (.int k), some (.str z), some (.int m), some (.int r), some (.str x), o] ∧ x.length = i ∧ ∀ c ∈ zs x, c ∈ zs z)
      ⟨s1, Str.ofString "", none, rfl, rfl, by simp [← S_nil, zs_S]⟩ ?_ ?_⟩
    · rintro i σ H2 hi ⟨sm, x, o, rfl, hx, hxz⟩
      obtain ⟨c, hc1, hc2⟩ := letter_at hz (r / (7 + 11 * (0 + (i : Int))))
      refine ⟨_, rfl, _, rfl, _, rfl, _, rfl, _, _, rfl, rfl, .inl ⟨by decide, by decide⟩, _, _, rfl, rfl, _, _, rfl, rfl, ⟨by omega, by omega⟩, .inl ⟨_, rfl, _, rfl, z, rfl, l8_line hz, _, _, rfl, rfl, l8_pos hz, z, _, c, rfl, rfl, l8_line hz, hc2, x, _, rfl, rfl, ?_, sm, _, _, rfl, ?_, ?_⟩⟩
      · rw [hx]
        exact Nat.le_trans (show i + 1 ≤ 200 by omega) (by decide)
      · rw [len_app, hx]
        rfl
      · intro d hd
        rw [zs_app] at hd
        rcases List.mem_append.mp hd with h | h
        · exact hxz d h
        · have : d = c := by simpa [zs] using h
          rw [this]
          exact hc1
    · rintro σ H2 ⟨sm, x, o, rfl, hx, hxz⟩
      exact ⟨_, rfl, q x _ sm (by omega) hxz⟩
/-! rows -/
structure RowOk (zs : List Nat) (M : Nat) (row : List (Nat × List Nat)) : Prop where
  st : ∀ t ∈ row, t.1 < M
  one : ∀ t ∈ row, t.2.length ≤ 1
  out : ∀ t ∈ row, ∀ c ∈ t.2, c ∈ zs
theorem cut_ts {t : TS} {D : Ends} {σ : L2.St} {H : Hp} (G : L2.St → Hp → Prop) (h : ∀ σ1 H1, G σ1 H1 → D.nx σ1 H1) (k : ∀ nx' : L2.St → Hp → Prop, (∀ σ1 H1, G σ1 H1 → nx' σ1 H1) → t { D with nx := nx' } σ H) : t D σ H := k D.nx h
def sp_lrows (K : PySem.W.Frag) : Sp := fun vs H Q _ => ∃ (a : Addr) (ns : List Int) (k : Int) (z : Str) (m : Nat), vs = [.ref a, .int k, .str z, .int m] ∧ Scr K H a ns ∧ 0 ≤ k ∧ k ≤ 1000 ∧ z ∈ L8 ∧ 1 ≤ m ∧ m ≤ 6 ∧
  ∀ v H' R, Same H H' → MachOk (zs z) R → R.length ≤ m → Dp K (New H H') v (rowsD R) → Q v H'
theorem ok_law_rows (T : Txt K mg A) : FnOk P w K mg base CX0 2 A.a_law_rows A.d_law_rows ["script", "at", "letters", "most"] (sp_lrows K) := by
  refine T.f_law_rows.F.ok sc_law_rows (fun vs H Q E h => ?_) (fun cdv Ar outer s H vs Q E hr h => ?_)
  · obtain ⟨a, ns, k, z, m, rfl, _⟩ := h
    rfl
  · obtain ⟨a, ns, k, z, m, rfl, hS, k0, k1, hz, hm1, hm6, q⟩ := h
    refine ⟨_, (pss_cons (ps_par (i := 4) (j := 5) (by rfl) sc_law_rows.nd rfl rfl (by decide) rfl rfl (pa_cons (pe_op op_add pe_int (pe_op op_mod (pe_callTy call_int1 (by rfl) T.n_int (by decide +kernel) (pa_cons (pe_call (ok_law_number T) (hr.mono (by decide)) (by rfl) T.f_law_number.g T.f_law_number.F.kp T.f_law_number.b .nil pass0 (pa_cons (pv 0) (pa_cons (pv 1) pa_nil))) pa_nil)) (pv 3))) (pa_cons (pe_lst pa_nil) pa_nil)) (by rfl)) (pss_cons (ps_set (i := 6) sc_law_rows.nd rfl (Or.inl rfl) (pe_op op_add pe_int (pe_op op_mod (pe_callTy call_int1 (by rfl) T.n_int (by decide +kernel) (pa_cons (pe_call (ok_law_number T) (hr.mono (by decide)) (by rfl) T.f_law_number.g T.f_law_number.F.kp T.f_law_number.b .nil pass0 (pa_cons (pv 0) (pa_cons (pe_op op_add (pv 1) pe_int) pa_nil))) pa_nil)) pe_int))) (pss_cons (ps_for PassesOwn.never rfl (pi_range1 (by rfl) T.n_range (pa_cons (pv 4) pa_nil)) (pg_name (i := 7) sc_law_rows.nd rfl (Or.inl rfl)) (pss_cons (ps_set (i := 8) sc_law_rows.nd rfl (Or.inl rfl) (pe_lst pa_nil)) (pss_cons (ps_for PassesOwn.never rfl (pi_enumS (by rfl) T.n_enumerate (pa_cons (pv 2) pa_nil)) (pg_tup (by rfl) (pgs_cons (pg_name (i := 9) sc_law_rows.nd rfl (Or.inl rfl)) (pgs_cons (pg_name (i := 10) sc_law_rows.nd rfl (Or.inl rfl)) pgs_nil))) (pss_cons (ps_set (i := 11) sc_law_rows.nd rfl (Or.inl rfl) (pe_callTy call_int1 (by rfl) T.n_int (by decide +kernel) (pa_cons (pe_call (ok_law_number T) (hr.mono (by decide)) (by rfl) T.f_law_number.g T.f_law_number.F.kp T.f_law_number.b .nil pass0 (pa_cons (pv 0) (pa_cons (pe_op op_add (pe_op op_add (pe_op op_add (pv 1) pe_int) (pe_op op_mul pe_int (pv 7))) (pv 9)) pa_nil))) pa_nil))) (pss_cons (ps_set (i := 12) sc_law_rows.nd rfl (Or.inl rfl) (pe_ix ix_str (pv 2) (pe_op op_mod (pe_callTy call_int1 (by rfl) T.n_int (by decide +kernel) (pa_cons (pe_op op_fdiv (pv 11) pe_int) pa_nil)) (pe_callB call_len_str (by rfl) T.n_len (by decide +kernel) (pa_cons (pv 2) pa_nil))) (fun _ _ => rfl))) (pss_cons (ps_if (pt_cmpR op_eq (pe_op op_mod (pe_callTy call_int1 (by rfl) T.n_int (by decide +kernel) (pa_cons (pv 11) pa_nil)) (pv 6)) pe_int (nomark _)) (pss_one (ps_set (i := 12) sc_law_rows.nd rfl (Or.inl rfl) pe_str)) pss_nil) (pss_cons (ps_set (i := 12) sc_law_rows.nd rfl (Or.inl rfl) (pe_ifExp (pt_cmpR op_eq (pe_op op_mod (pe_callTy call_int1 (by rfl) T.n_int (by decide +kernel) (pa_cons (pe_op op_fdiv (pv 11) pe_int) pa_nil)) pe_int) pe_int (nomark _)) (pv 10) (pv 12))) (pss_one (ps_expr (pe_bm PySem.F.plainAttrs_list PySem.F.slot_list_append PySem.F.type_list_append mt_append (pv 8) (pa_cons (pe_tup (pa_cons (pe_op op_mod (pe_callTy call_int1 (by rfl) T.n_int (by decide +kernel) (pa_cons (pe_op op_fdiv (pv 11) pe_int) pa_nil)) (pv 4)) (pa_cons (pv 12) pa_nil))) pa_nil))))))))) (pss_one (ps_expr (pe_bm PySem.F.plainAttrs_list PySem.F.slot_list_append PySem.F.type_list_append mt_append (pv 5) (pa_cons (pe_callTy call_tuple_of (by rfl) T.n_tuple (by decide +kernel) (pa_cons (pv 8) pa_nil)) pa_nil))))))) (pss_one (ps_ret (pe_callTy call_tuple_of (by rfl) T.n_tuple (by decide +kernel) (pa_cons (pv 5) pa_nil))))))), ?_⟩
    refine ⟨_, rfl, _, rfl, a, ns, k, rfl, hS, k0, by omega, fun r H1 s1 r0 r1 => .inl ⟨_, rfl, ?_⟩⟩
    have p0 : (0 : Int) < (m : Int) := by omega
    have m0 : 0 ≤ r % (m : Int) := Int.emod_nonneg _ (by omega)
    have m1 : r % (m : Int) < (m : Int) := Int.emod_lt_of_pos _ p0
    obtain ⟨M, hM⟩ : ∃ M : Nat, 1 + r % (m : Int) = (M : Int) := ⟨(1 + r % (m : Int)).toNat, by omega⟩
    refine ⟨_, rfl, _, _, rfl, rfl, p0, _, _, rfl, rfl, ?_⟩
    refine ⟨Nat.zero_le _, fun FL hFL => ⟨_, _, rfl, ?_⟩⟩
    have f0 : H FL = none := s1.free hFL
    refine ⟨_, rfl, _, rfl, _, _, rfl, rfl, a, ns, k + 1, rfl, hS.same (Same.up s1 hFL), by omega, by omega, fun r2 H2 s2 r20 r21 => .inl ⟨_, rfl, _, _, rfl, rfl, pos5, _, _, rfl, rfl, ?_⟩⟩
    have t0 : 0 ≤ r2 % 5 := Int.emod_nonneg _ (by decide)
    have t1 : r2 % 5 < 5 := Int.emod_lt_of_pos _ (by decide)
    have s02 := (Same.up s1 hFL (o := .lst [])).trans s2
    refine ⟨_, rfl, 1 + r % (m : Int), rfl, by omega, by omega, for_range (lo := 0) (n := (1 + r % (m : Int)).toNat) (fun i σ H' => Same H H' ∧ ∃ R xs o7 o8 o9 o10 o11 o12, σ = [some (.ref a), some (.int k), some (.str z), some (.int m), some (.int (1 + r % (m : Int))), some (.ref FL), some (.int (2 + r2 % 5)), o7, o8, o9, o10, o11, o12] ∧
        H' FL = some (.lst xs) ∧ DpAll K (New H (hid [FL] H')) xs (R.map rowD) ∧ R.length = i ∧ ∀ row ∈ R, row.length = (zs z).length ∧ RowOk (zs z) M row)
      ⟨s02, [], [], none, none, none, none, none, none, rfl, s2 _ _ upd_same, .nil, rfl, fun _ h => nomatch h⟩ ?_ ?_⟩
    · rintro i σ H3 hi ⟨sm, R, xs, o7, o8, o9, o10, o11, o12, rfl, hx, dx, hR, hrows⟩
      have hiM : i < M := by omega
      refine ⟨Nat.zero_le _, fun WL hWL => ?_⟩
      have w0 : H WL = none := sm.free hWL
      have nFW : FL ≠ WL := ne_of_none hx hWL
      have sW := Same.up sm hWL (o := .lst [])
      have hmW : Same (hid [FL] H3) (hid [FL, WL] (upd H3 WL (.lst []))) := (hid_more hWL).trans (hid_less (by simp))
      refine ⟨_, rfl, z, rfl, ?_⟩
      refine for_it walk_enumS (fun j σ H' => Same H H' ∧ ∃ row ws o9 o10 o11 o12, σ = [some (.ref a), some (.int k), some (.str z), some (.int m), some (.int (1 + r % (m : Int))), some (.ref FL), some (.int (2 + r2 % 5)), some (.int ((0 : Int) + (i : Int))), some (.ref WL), o9, o10, o11, o12] ∧
          H' FL = some (.lst xs) ∧ DpAll K (New H (hid [FL, WL] H')) xs (R.map rowD) ∧ H' WL = some (.lst ws) ∧ DpAll K (New H (hid [FL, WL] H')) ws (row.map turnD) ∧ row.length = j ∧ RowOk (zs z) M row)
        ⟨sW, [], [], _, _, _, _, rfl, same_upd hWL _ _ hx, DpAll.same (new_trans hmW) dx, upd_same, .nil, rfl, ⟨fun _ h => (nomatch h), fun _ h => (nomatch h), fun _ h => (nomatch h)⟩⟩ (fun _ _ _ _ _ => trivial) ?_ ?_
      · rintro j y σ H4 H5 hj ⟨sm4, row, ws, o9, o10, o11, o12, rfl, hx4, dx4, hw4, dw4, hrl, hrok⟩ ⟨p, c, rfl, hp, rfl, hc⟩
        have hcz : c ∈ zs z := str_mem hc
        have sp := same_upd (o := .tup [.int (j : Nat), .str ⟨#[c]⟩]) hp
        have l4 := (l8_len z hz).2
        have hj4 : j < 4 := Nat.lt_of_lt_of_le hj l4
        refine ⟨p, _, rfl, .inl (.inl upd_same), rfl, _, _, rfl, _, _, rfl, rfl, ?_⟩
        refine ⟨_, rfl, _, rfl, _, _, rfl, rfl, _, rfl, _, _, rfl, rfl, .inl ⟨by decide, by decide⟩, _, _, rfl, rfl, _, rfl, _, _, rfl, rfl, a, ns, _, rfl, hS.same (sm4.trans sp), by omega, by omega, fun r3 H6 s6 r30 r31 => .inl ⟨_, rfl, ?_⟩⟩
        obtain ⟨d, hd1, hd2⟩ := letter_at hz (r3 / 9)
        refine ⟨_, rfl, _, rfl, _, _, rfl, rfl, ⟨by decide, by decide⟩, .inl ⟨_, rfl, _, rfl, z, rfl, l8_line hz, _, _, rfl, rfl, l8_pos hz, z, _, d, rfl, rfl, l8_line hz, hd2, ?_⟩⟩
        have pM : (0 : Int) < 1 + r % (m : Int) := by omega
        have pT : (0 : Int) < 2 + r2 % 5 := by omega
        obtain ⟨e1, e2⟩ : 0 ≤ r3 / 500 % (1 + r % (m : Int)) ∧ r3 / 500 % (1 + r % (m : Int)) < 1 + r % (m : Int) := ⟨Int.emod_nonneg _ (by omega), Int.emod_lt_of_pos _ pM⟩
        obtain ⟨t, ht⟩ : ∃ t : Nat, r3 / 500 % (1 + r % (m : Int)) = (t : Int) := ⟨(r3 / 500 % (1 + r % (m : Int))).toNat, by omega⟩
        have htM : t < M := by omega
        have sp6 := sp.trans s6
        have hx6 := sp6 _ _ hx4
        have hw6 := sp6 _ _ hw4
        have lws : ws.length < sizeLine := by
          rw [DpAll.len dw4, List.length_map, hrl]
          exact Nat.lt_trans hj4 (by decide)
        have fin : ∀ o : List Nat, o.length ≤ 1 → (∀ e ∈ o, e ∈ zs z) → ∀ u, H6 u = none → Same H (upd (upd H6 u (.tup [.int (r3 / 500 % (1 + r % (m : Int))), .str (S o)])) WL (.lst (ws ++ [.ref u]))) ∧ ∃ row ws' o9 o10 o11 o12,
            ([some (.ref a), some (.int k), some (.str z), some (.int m), some (.int (1 + r % (m : Int))), some (.ref FL), some (.int (2 + r2 % 5)), some (.int ((0 : Int) + (i : Int))), some (.ref WL), some (.int (j : Nat)), some (.str ⟨#[c]⟩), some (.int r3), some (.str (S o))] : L2.St) = [some (.ref a), some (.int k), some (.str z), some (.int m), some (.int (1 + r % (m : Int))), some (.ref FL), some (.int (2 + r2 % 5)), some (.int ((0 : Int) + (i : Int))), some (.ref WL), o9, o10, o11, o12] ∧
            upd (upd H6 u (.tup [.int (r3 / 500 % (1 + r % (m : Int))), .str (S o)])) WL (.lst (ws ++ [.ref u])) FL = some (.lst xs) ∧ DpAll K (New H (hid [FL, WL] (upd (upd H6 u (.tup [.int (r3 / 500 % (1 + r % (m : Int))), .str (S o)])) WL (.lst (ws ++ [.ref u]))))) xs (R.map rowD) ∧
            upd (upd H6 u (.tup [.int (r3 / 500 % (1 + r % (m : Int))), .str (S o)])) WL (.lst (ws ++ [.ref u])) WL = some (.lst ws') ∧ DpAll K (New H (hid [FL, WL] (upd (upd H6 u (.tup [.int (r3 / 500 % (1 + r % (m : Int))), .str (S o)])) WL (.lst (ws ++ [.ref u]))))) ws' (row.map turnD) ∧ row.length = j + 1 ∧ RowOk (zs z) M row := by
          intro o ho1 ho2 u hu
          have su := same_upd (o := .tup [.int (r3 / 500 % (1 + r % (m : Int))), .str (S o)]) hu
          have n : hid [FL, WL] (upd (upd H6 u (.tup [.int (r3 / 500 % (1 + r % (m : Int))), .str (S o)])) WL (.lst (ws ++ [.ref u]))) = hid [FL, WL] (upd H6 u (.tup [.int (r3 / 500 % (1 + r % (m : Int))), .str (S o)])) := hid_upd (by simp)
          have upn : Same (New H (hid [FL, WL] H4)) (New H (hid [FL, WL] (upd H6 u (.tup [.int (r3 / 500 % (1 + r % (m : Int))), .str (S o)])))) := new_trans (hid_same fun b o _ e => su b o (sp6 b o e))
          have uF : u ≠ FL := (ne_of_none hx6 hu).symm
          have uW : u ≠ WL := (ne_of_none hw6 hu).symm
          refine ⟨Same.set ((sm4.trans sp6).trans su) w0, row ++ [(t, o)], ws ++ [.ref u], _, _, _, _, rfl, ?_, ?_, upd_same, ?_, by rw [List.length_append, hrl]; rfl, ?_⟩
          · rw [upd_ne nFW]
            exact su _ _ hx6
          · rw [n]
            exact DpAll.same upn dx4
          · rw [n, List.map_append]
            refine DpAll.app (DpAll.same upn dw4) (.cons (Dp.tupNew (new_hid_at ((sm4.trans sp6).free hu) (by simp; exact ⟨uF, uW⟩) upd_same) ?_) .nil)
            rw [ht]
            exact .cons (.int _) (.cons (.str _) .nil)
          · refine ⟨fun x hx => ?_, fun x hx => ?_, fun x hx => ?_⟩
            · rcases List.mem_append.mp hx with h | h
              · exact hrok.st x h
              · simp at h
                rw [h]
                exact htM
            · rcases List.mem_append.mp hx with h | h
              · exact hrok.one x h
              · simp at h
                rw [h]
                exact ho1
            · rcases List.mem_append.mp hx with h | h
              · exact hrok.out x h
              · simp at h
                rw [h]
                exact ho2
        refine ⟨_, rfl, .inl ⟨_, rfl, _, rfl, _, _, rfl, rfl, pT, rfl, _, rfl, ?_⟩⟩
        by_cases q1 : r3 % (2 + r2 % 5) = 0
        · rw [show decide (V.int (r3 % (2 + r2 % 5)) = V.int 0) = true from decide_eq_true (by rw [q1])]
          refine iteT ⟨_, rfl, _, _, rfl, rfl, ⟨by decide, by decide⟩, .inl ⟨_, rfl, _, _, rfl, rfl, pos3, rfl, _, rfl, ?_⟩⟩
          by_cases q2 : r3 / 81 % 3 = 0
          · rw [show decide (V.int (r3 / 81 % 3) = V.int 0) = true from decide_eq_true (by rw [q2])]
            refine iteT ⟨_, rfl, _, rfl, .inl ⟨rfl, _, SqL.of hw6⟩, _, rfl, _, _, rfl, rfl, ⟨by decide, by decide⟩, .inl ⟨_, rfl, _, rfl, _, _, rfl, rfl, pM, _, rfl, by show 2 ≤ sizeLine; decide, fun u hu => ⟨WL, ws, _, rfl, rfl, same_upd hu _ _ hw6, lws, fin [c] (Nat.le_refl _) (by simp; exact hcz) u hu⟩⟩⟩
          · rw [show decide (V.int (r3 / 81 % 3) = V.int 0) = false from decide_eq_false (fun h => q2 (by injection h))]
            refine iteF ⟨_, rfl, _, rfl, .inl ⟨rfl, _, SqL.of hw6⟩, _, rfl, _, _, rfl, rfl, ⟨by decide, by decide⟩, .inl ⟨_, rfl, _, rfl, _, _, rfl, rfl, pM, _, rfl, by show 2 ≤ sizeLine; decide, fun u hu => ⟨WL, ws, _, rfl, rfl, same_upd hu _ _ hw6, lws, fin [] (Nat.zero_le _) (by simp) u hu⟩⟩⟩
        · rw [show decide (V.int (r3 % (2 + r2 % 5)) = V.int 0) = false from decide_eq_false (fun h => q1 (by injection h))]
          refine iteF ⟨_, rfl, _, _, rfl, rfl, ⟨by decide, by decide⟩, .inl ⟨_, rfl, _, _, rfl, rfl, pos3, rfl, _, rfl, ?_⟩⟩
          by_cases q2 : r3 / 81 % 3 = 0
          · rw [show decide (V.int (r3 / 81 % 3) = V.int 0) = true from decide_eq_true (by rw [q2])]
            refine iteT ⟨_, rfl, _, rfl, .inl ⟨rfl, _, SqL.of hw6⟩, _, rfl, _, _, rfl, rfl, ⟨by decide, by decide⟩, .inl ⟨_, rfl, _, rfl, _, _, rfl, rfl, pM, _, rfl, by show 2 ≤ sizeLine; decide, fun u hu => ⟨WL, ws, _, rfl, rfl, same_upd hu _ _ hw6, lws, fin [c] (Nat.le_refl _) (by simp; exact hcz) u hu⟩⟩⟩
          · rw [show decide (V.int (r3 / 81 % 3) = V.int 0) = false from decide_eq_false (fun h => q2 (by injection h))]
            refine iteF ⟨_, rfl, _, rfl, .inl ⟨rfl, _, SqL.of hw6⟩, _, rfl, _, _, rfl, rfl, ⟨by decide, by decide⟩, .inl ⟨_, rfl, _, rfl, _, _, rfl, rfl, pM, _, rfl, by show 2 ≤ sizeLine; decide, fun u hu => ⟨WL, ws, _, rfl, rfl, same_upd hu _ _ hw6, lws, fin [d] (Nat.le_refl _) (by simp; exact hd1) u hu⟩⟩⟩
      · rintro σ H4 ⟨sm4, row, ws, o9, o10, o11, o12, rfl, hx4, dx4, hw4, dw4, hrl, hrok⟩
        refine ⟨_, rfl, .inl ⟨rfl, _, SqL.of hx4⟩, _, rfl, WL, ws, rfl, .inl ⟨SqL.of hw4, fun u hu => ?_⟩⟩
        have su := same_upd (o := .tup ws) hu
        have uF : u ≠ FL := (ne_of_none hx4 hu).symm
        have upn : Same (New H (hid [FL, WL] H4)) (New H (hid [FL] (upd H4 u (.tup ws)))) := new_trans ((hid_less (by simp)).trans (hid_up hu))
        refine ⟨FL, xs, _, rfl, rfl, su _ _ hx4, ?_, Same.set (sm4.trans su) f0, R ++ [row], xs ++ [.ref u], _, _, _, _, _, _, rfl, upd_same, ?_, by rw [List.length_append, hR]; rfl, ?_⟩
        · rw [DpAll.len dx4, List.length_map, hR]
          exact Nat.lt_trans (show i < 7 by omega) (by decide)
        · rw [hid_upd (by simp), List.map_append]
          exact DpAll.app (DpAll.same upn dx4) (.cons (Dp.tupNew (new_hid_at (sm4.free hu) (by simp; exact uF) upd_same) (DpAll.same upn dw4)) .nil)
        · intro row' h
          rcases List.mem_append.mp h with h | h
          · exact hrows row' h
          · simp at h
            rw [h]
            exact ⟨by rw [hrl, zs]; simp, hrok⟩
    · rintro σ H3 ⟨sm, R, xs, o7, o8, o9, o10, o11, o12, rfl, hx, dx, hR, hrows⟩
      refine ⟨_, rfl, FL, xs, rfl, .inl ⟨.inl (.inl hx), fun l hl => ?_⟩⟩
      refine q _ _ R (Same.up sm hl) ⟨by omega, fun row h => (hrows row h).1, fun row h t ht => ?_, fun row h => (hrows row h).2.one, fun row h => (hrows row h).2.out⟩ (by omega) (tup_new (ls := [FL]) sm hl dx)
      have := (hrows row h).2.st t ht
      omega
end
end K2
set_option Elab.async false
set_option linter.all false
set_option maxRecDepth 100000
set_option maxHeartbeats 8000000
namespace K2
open PySem PySem.Spec PyProof.Rows L2 FX
section
variable {P : Program} {w : World} {K : PySem.W.Frag} {mg : Str → Option Value} {base : Heap} {A : Ad}
def sp_lturn (K : PySem.W.Frag) : Sp := fun vs H Q _ => ∃ (z : Str) (v : V) (R : Rows) (st c : Nat), vs = [.str z, v, .int st, .str (S [c])] ∧ z ∈ L8 ∧ Dp K H v (rowsD R) ∧ MachOk (zs z) R ∧ st < R.length ∧ c ∈ zs z ∧ ∀ u, Dp K H u (turnD (stp (zs z) R st c)) → Q u H
theorem ok_law_turn (T : Txt K mg A) : FnOk P w K mg base CX0 1 A.a_law_turn A.d_law_turn ["letters", "rows", "state", "letter"] (sp_lturn K) := by
  refine T.f_law_turn.F.ok sc_law_turn (fun vs H Q E h => ?_) (fun cdv Ar outer s H vs Q E hr h => ?_)
  · obtain ⟨z, v, R, st, c, rfl, _⟩ := h
    rfl
  · obtain ⟨z, v, R, st, c, rfl, hz, hd, M, hst, hc, q⟩ := h
    refine ⟨_, (pss_one (ps_ret (pe_ix ix_tup (pe_ix ix_tup (pv 1) (pv 2) (fun _ _ => rfl)) (pe_m1 PySem.F.slot_str_index PySem.F.type_str_index mt_sindex (pv 0) (pv 3)) (fun _ _ => rfl)))), ?_⟩
    obtain ⟨row, g1, g2, g3, g4⟩ := stp_mem M hst hc
    obtain ⟨a, xs, rfl, hs, ha⟩ := Dp.tupOf hd
    obtain ⟨v1, k1, k2⟩ := DpAll.get ha (i := st) (d := rowD row) (by rw [List.getElem?_map, g1]; rfl)
    obtain ⟨b, ys, rfl, hs2, ha2⟩ := Dp.tupOf k2
    obtain ⟨v2, k3, k4⟩ := DpAll.get ha2 (i := ix (zs z) c) (d := turnD (stp (zs z) R st c)) (by rw [List.getElem?_map, g2]; rfl)
    refine ⟨_, rfl, _, rfl, a, xs, st, _, rfl, rfl, hs, atI_nat k1, _, rfl, ⟨_, rfl⟩, _, rfl, z, S [c], ix (zs z) c, [], rfl, rfl, l8_index z hz c hc, ?_⟩
    exact ⟨b, ys, ((ix (zs z) c : Nat) : Int), v2, rfl, rfl, hs2, atI_nat k3, q v2 k4⟩
def sp_ljoined (K : PySem.W.Frag) : Sp := fun vs H Q _ => ∃ (z : Str) (v1 v2 : V) (R1 R2 : Rows), vs = [.str z, v1, v2] ∧ z ∈ L8 ∧ Dp K H v1 (rowsD R1) ∧ Dp K H v2 (rowsD R2) ∧ MachOk (zs z) R1 ∧ MachOk (zs z) R2 ∧ R1.length * R2.length ≤ 36 ∧
  ∀ v H', Same H H' → Dp K (New H H') v (rowsD (bfsR (zs z) R1 R2).2) → Q v H'
theorem ok_law_joined (T : Txt K mg A) : FnOk P w K mg base CX0 2 A.a_law_joined A.d_law_joined ["letters", "one", "other"] (sp_ljoined K) := by
  refine T.f_law_joined.F.ok sc_law_joined (fun vs H Q E h => ?_) (fun cdv Ar outer s H vs Q E hr h => ?_)
  · obtain ⟨z, v1, v2, R1, R2, rfl, _⟩ := h
    rfl
  · obtain ⟨z, v1, v2, R1, R2, rfl, hz, d1, d2, M1, M2, b36, qq⟩ := h
    refine ⟨_, (pss_cons (ps_par (i := 3) (j := 4) (by rfl) sc_law_joined.nd rfl rfl (by decide) rfl rfl (pa_cons (pe_lst (pa_cons (pe_tup (pa_cons pe_int (pa_cons pe_int pa_nil))) pa_nil)) (pa_cons (pe_lst pa_nil) pa_nil)) (by rfl)) (pss_cons (ps_while PassesOwn.never (pt_cmpR op_lt (pe_callB call_len_seq (by rfl) T.n_len (by decide +kernel) (pa_cons (pv 4) pa_nil)) (pe_callB call_len_seq (by rfl) T.n_len (by decide +kernel) (pa_cons (pv 3) pa_nil)) (nomark _)) (pss_cons (ps_asg (pe_ix ix_list (pv 3) (pe_callB call_len_seq (by rfl) T.n_len (by decide +kernel) (pa_cons (pv 4) pa_nil)) (fun _ _ => rfl)) (pg_tup (by rfl) (pgs_cons (pg_name (i := 5) sc_law_joined.nd rfl (Or.inl rfl)) (pgs_cons (pg_name (i := 6) sc_law_joined.nd rfl (Or.inl rfl)) pgs_nil)))) (pss_cons (ps_set (i := 7) sc_law_joined.nd rfl (Or.inl rfl) (pe_lst pa_nil)) (pss_cons (ps_for PassesOwn.never rfl (pi_str (pv 0)) (pg_name (i := 8) sc_law_joined.nd rfl (Or.inl rfl)) (pss_cons (ps_asg (pe_call (ok_law_turn T) (hr.mono (by decide)) (by rfl) T.f_law_turn.g T.f_law_turn.F.kp T.f_law_turn.b .nil pass0 (pa_cons (pv 0) (pa_cons (pv 1) (pa_cons (pv 5) (pa_cons (pv 8) pa_nil))))) (pg_tup (by rfl) (pgs_cons (pg_name (i := 9) sc_law_joined.nd rfl (Or.inl rfl)) (pgs_cons (pg_name (i := 10) sc_law_joined.nd rfl (Or.inl rfl)) pgs_nil)))) (pss_cons (ps_asg (pe_ifExp (pt_cmpR op_eq (pv 10) pe_str (nomark _)) (pe_tup (pa_cons (pv 6) (pa_cons pe_str pa_nil))) (pe_call (ok_law_turn T) (hr.mono (by decide)) (by rfl) T.f_law_turn.g T.f_law_turn.F.kp T.f_law_turn.b .nil pass0 (pa_cons (pv 0) (pa_cons (pv 2) (pa_cons (pv 6) (pa_cons (pv 10) pa_nil)))))) (pg_tup (by rfl) (pgs_cons (pg_name (i := 11) sc_law_joined.nd rfl (Or.inl rfl)) (pgs_cons (pg_name (i := 12) sc_law_joined.nd rfl (Or.inl rfl)) pgs_nil)))) (pss_cons (ps_if (pt_cmpR (op_notInD (units1 hr)) (pe_tup (pa_cons (pv 9) (pa_cons (pv 11) pa_nil))) (pv 3) (by rfl)) (pss_one (ps_expr (pe_bm PySem.F.plainAttrs_list PySem.F.slot_list_append PySem.F.type_list_append mt_append (pv 3) (pa_cons (pe_tup (pa_cons (pv 9) (pa_cons (pv 11) pa_nil))) pa_nil)))) pss_nil) (pss_one (ps_expr (pe_bm PySem.F.plainAttrs_list PySem.F.slot_list_append PySem.F.type_list_append mt_append (pv 7) (pa_cons (pe_tup (pa_cons (pe_bm PySem.F.plainAttrs_list PySem.F.slot_list_index PySem.F.type_list_index (mt_indexD (units1 hr)) (pv 3) (pa_cons (pe_tup (pa_cons (pv 9) (pa_cons (pv 11) pa_nil))) pa_nil)) (pa_cons (pv 12) pa_nil))) pa_nil)))))))) (pss_one (ps_expr (pe_bm PySem.F.plainAttrs_list PySem.F.slot_list_append PySem.F.type_list_append mt_append (pv 4) (pa_cons (pe_callTy call_tuple_of (by rfl) T.n_tuple (by decide +kernel) (pa_cons (pv 7) pa_nil)) pa_nil)))))))) (pss_one (ps_ret (pe_callTy call_tuple_of (by rfl) T.n_tuple (by decide +kernel) (pa_cons (pv 4) pa_nil)))))), ?_⟩
    refine ⟨by show 2 ≤ sizeLine; decide, fun t0 ht0 => ⟨by show 1 ≤ sizeLine; decide, fun PL hPL => ⟨Nat.zero_le _, fun RL hRL => ⟨_, _, rfl, ?_⟩⟩⟩⟩
    refine ⟨fun m σ H' => ∃ s : BS, m = 36 - s.2.length ∧ BInv (zs z) R1 R2 s ∧ bfsR (zs z) R1 R2 = bfs (zs z) R1 R2 (36 - s.2.length) s ∧ BH K H H' PL RL s ∧ ∃ o5 o6 o7 o8 o9 o10 o11 o12, σ = [some (.str z), some v1, some v2, some (.ref PL), some (.ref RL), o5, o6, o7, o8, o9, o10, o11, o12],
      ⟨36, ([(0, 0)], []), rfl, BInv.init M1.pos M2.pos, rfl, ?_, none, none, none, none, none, none, none, none, rfl⟩, ?_⟩
    · have n1 := ne_of_none (upd_same (H := H) (a := t0) (o := .tup [V.int 0, V.int 0])) hPL
      refine ⟨Same.up (Same.up (same_upd ht0) hPL) hRL, ⟨(same_upd ht0).free hPL, (Same.up (same_upd ht0) hPL).free hRL⟩, ne_of_none upd_same hRL, ⟨[.ref t0], same_upd hRL _ _ upd_same, ?_⟩, ⟨[], upd_same, .nil⟩⟩
      refine .cons (Dp.tupNew (new_hid_at ht0 ?_ (same_upd hRL _ _ (same_upd hPL _ _ upd_same))) (.cons (.int _) (.cons (.int _) .nil))) .nil
      have n2 := ne_of_none (same_upd hPL _ _ upd_same) hRL
      simp
      exact ⟨n1, n2⟩
    · rintro m σ H2 ⟨s, rfl, B, eb, bh, o5, o6, o7, o8, o9, o10, o11, o12, rfl⟩
      obtain ⟨sm, fr, ne, ⟨xs, hx, dx⟩, ⟨ys, hy, dy⟩⟩ := bh
      have lx : xs.length = s.1.length := by rw [DpAll.len dx, List.length_map]
      have ly : ys.length = s.2.length := by rw [DpAll.len dy, List.length_map]
      refine ⟨_, rfl, RL, ys, rfl, .inl (SqL.of hy), _, rfl, PL, xs, rfl, .inl (SqL.of hx), _, _, rfl, rfl, _, rfl, ?_⟩
      by_cases hlt : s.2.length < s.1.length
      · rw [show decide ((ys.length : Int) < (xs.length : Int)) = true from decide_eq_true (by omega)]
        have hle := nodup_le _ _ _ B.nd B.bd
        have B' := B.turn M1 M2 hlt
        have e36 : 36 - s.2.length = (36 - (turnB (zs z) R1 R2 s).2.length) + 1 := by
          have : (turnB (zs z) R1 R2 s).2.length = s.2.length + 1 := by
            show (s.2 ++ [_]).length = _
            rw [List.length_append, List.length_singleton]
          omega
        refine iteT ⟨fun σ' H' => BH K H H' PL RL (turnB (zs z) R1 R2 s) ∧ ∃ o5 o6 o7 o8 o9 o10 o11 o12, σ' = [some (.str z), some v1, some v2, some (.ref PL), some (.ref RL), o5, o6, o7, o8, o9, o10, o11, o12], fun σ' H' ⟨bh', o'⟩ => ⟨36 - (turnB (zs z) R1 R2 s).2.length, by omega, turnB (zs z) R1 R2 s, rfl, B', ?_, bh', o'⟩, ?_⟩
        · rw [eb, e36, bfs_step hlt]
        · have hpr : s.1[s.2.length]? = some (s.1.getD s.2.length (0, 0)) := by
            rw [List.getD_eq_getElem?_getD, List.getElem?_eq_getElem hlt]
            rfl
          have hprb := B.bd _ (List.mem_of_getElem? hpr)
          generalize hpe : s.1.getD s.2.length (0, 0) = pr at hpr hprb
          obtain ⟨v, hv1, hv2⟩ := DpAll.get dx (i := ys.length) (d := dP pr) (by rw [List.getElem?_map, ly, hpr]; rfl)
          obtain ⟨tp, rfl, htp⟩ := two_ints hv2
          refine ⟨_, rfl, _, rfl, RL, ys, rfl, .inl (SqL.of hy), PL, xs, _, _, rfl, rfl, SqL.of hx, atI_nat hv1, tp, _, rfl, SqT.same ((new_sub _ _).trans (hid_sub _ _)) htp, rfl, _, _, rfl, _, _, rfl, rfl, ?_⟩
          refine ⟨Nat.zero_le _, fun WL hWL => ?_⟩
          have wl0 : H WL = none := sm.free hWL
          have nPW : PL ≠ WL := ne_of_none hx hWL
          have nRW : RL ≠ WL := ne_of_none hy hWL
          have sW := Same.up sm hWL (o := .lst [])
          have hm : Same (hid [PL, RL] H2) (hid [PL, RL, WL] (upd H2 WL (.lst []))) := (hid_more hWL).trans (hid_less (by simp))
          have bw0 : BW K H (upd H2 WL (.lst [])) PL RL WL s s.1 [] := ⟨sW, ⟨fr.1, fr.2, wl0⟩, ⟨ne, nPW, nRW⟩, ⟨xs, same_upd hWL _ _ hx, DpAll.same (new_trans hm) dx⟩, ⟨ys, same_upd hWL _ _ hy, DpAll.same (new_trans hm) dy⟩, ⟨[], upd_same, .nil⟩⟩
          refine ⟨_, rfl, z, rfl, ?_⟩
          refine for_it walk_str (fun i σ H' => BW K H H' PL RL WL s (rowS (jt (zs z) R1 R2 pr) ((zs z).take i) s.1 []).1 (rowS (jt (zs z) R1 R2 pr) ((zs z).take i) s.1 []).2 ∧ ∃ o8 o9 o10 o11 o12, σ = [some (.str z), some v1, some v2, some (.ref PL), some (.ref RL), some (.int pr.1), some (.int pr.2), some (.ref WL), o8, o9, o10, o11, o12])
            ⟨bw0, _, _, _, _, _, rfl⟩ (fun _ _ _ _ _ => trivial) ?_ ?_
          · rintro i y σ H4 H5 hi ⟨bw, o8, o9, o10, o11, o12, rfl⟩ ⟨rfl, c, hc, rfl⟩
            have hcz := str_at hc
            have hcm := List.mem_of_getElem? hcz
            have htk := take_succ' hcz
            obtain ⟨k1, k2, ⟨tt, hps⟩, rr, hrow, hrl, _⟩ := rowS_spec (jt (zs z) R1 R2 pr) (fun p => p.1 < R1.length ∧ p.2 < R2.length) ((zs z).take i) s.1 [] (fun d hd => (jt_bd M1 M2 hprb (List.mem_of_mem_take hd)).1) B.nd B.bd
            generalize hpp : (rowS (jt (zs z) R1 R2 pr) ((zs z).take i) s.1 []).1 = ps at bw k1 k2 hps
            generalize hrr : (rowS (jt (zs z) R1 R2 pr) ((zs z).take i) s.1 []).2 = row at bw hrow
            have hnext : rowS (jt (zs z) R1 R2 pr) ((zs z).take (i + 1)) s.1 [] = (addP ps (jt (zs z) R1 R2 pr c).1, row ++ [((addP ps (jt (zs z) R1 R2 pr c).1).idxOf (jt (zs z) R1 R2 pr c).1, (jt (zs z) R1 R2 pr c).2)]) := by
              rw [htk, rowS_app, hpp, hrr]
            have hjb := jt_bd M1 M2 hprb hcm
            refine ⟨_, rfl, _, rfl, _, rfl, _, rfl, z, v1, R1, pr.1, c, rfl, hz, Dp.same bw.sm d1, M1, hprb.1, hcm, fun u hu => ?_⟩
            obtain ⟨t1, rfl, ht1⟩ := turn_of hu
            refine ⟨t1, _, rfl, ht1, rfl, _, _, rfl, _, _, rfl, rfl, ?_⟩
            have ej1 : ((stp (zs z) R1 pr.1 c).1) = (jt (zs z) R1 R2 pr c).1.1 := by
              unfold jt
              split <;> rfl
            have h1one := stp_one M1 hprb.1 hcm
            have h1out := stp_out M1 hprb.1 hcm
            generalize hq : (jt (zs z) R1 R2 pr c).1 = q at hnext hjb ej1
            generalize ho : (jt (zs z) R1 R2 pr c).2 = out at hnext hjb
            refine ⟨_, rfl, rfl, _, rfl, ?_⟩
            rw [ej1]
            have lps : ps.length ≤ 36 := by
              have := nodup_le _ _ _ k1 k2
              omega
            have lrow : row.length ≤ 4 := by
              rw [hrow, List.nil_append, hrl, List.length_take, zs_length]
              have := (l8_len z hz).2
              omega
            have sl2 : 2 ≤ sizeLine := by decide
            cases e : (stp (zs z) R1 pr.1 c).2
            case' nil =>
              have ej : jt (zs z) R1 R2 pr c = (((stp (zs z) R1 pr.1 c).1, pr.2), []) := by
                unfold jt
                rw [e]
              have eq2 : pr.2 = q.2 := by rw [← hq, ej]
              have eo : [] = out := by rw [← ho, ej]
              rw [show decide (V.str (S []) = V.str (Str.ofString "")) = true from rfl]
              refine iteT ⟨_, rfl, by show 2 ≤ sizeLine; decide, fun t2 ht2 => ?_⟩
              refine ⟨t2, _, rfl, .inl (.inl upd_same), rfl, _, _, rfl, _, _, rfl, rfl, ?_⟩
              rw [eq2, ← S_nil, eo]
              have s6 := same_upd (o := .tup [V.int (q.2 : Nat), V.str (S out)]) ht2
              generalize upd H5 t2 (.tup [V.int (q.2 : Nat), V.str (S out)]) = H6 at s6
            case' cons d r =>
              have er : r = [] := by
                rw [e] at h1one
                cases r with
                | nil => rfl
                | cons _ _ => simp at h1one
              subst er
              have hd' : d ∈ zs z := h1out d (by rw [e]; simp)
              have ej : jt (zs z) R1 R2 pr c = (((stp (zs z) R1 pr.1 c).1, (stp (zs z) R2 pr.2 d).1), (stp (zs z) R2 pr.2 d).2) := by
                unfold jt
                rw [e]
              have eq2 : (stp (zs z) R2 pr.2 d).1 = q.2 := by rw [← hq, ej]
              have eo : (stp (zs z) R2 pr.2 d).2 = out := by rw [← ho, ej]
              rw [show decide (V.str (S [d]) = V.str (Str.ofString "")) = false from decide_eq_false (fun h => by
                injection h with h
                exact S_cons d h)]
              refine iteF ⟨_, rfl, _, rfl, _, rfl, _, rfl, z, v2, R2, pr.2, d, rfl, hz, Dp.same bw.sm d2, M2, hprb.2, hd', fun u2 hu2 => ?_⟩
              obtain ⟨t2, rfl, ht2⟩ := turn_of hu2
              rw [eq2, eo] at ht2
              refine ⟨t2, _, rfl, ht2, rfl, _, _, rfl, _, _, rfl, rfl, ?_⟩
              have s6 : Same H5 H5 := Same.refl _
              generalize hH6 : H5 = H6 at s6
            all_goals
              have bw6 : BW K H H6 PL RL WL s ps row := by
                first
                  | exact bw.same s6
                  | (subst hH6; exact bw)
              refine ⟨_, rfl, _, rfl, sl2, fun u1 hu1 => ?_⟩
              have su1 := same_upd (o := .tup [V.int (q.1 : Nat), V.int (q.2 : Nat)]) hu1
              have bw7 := bw6.same su1
              obtain ⟨xs7, hx7, dx7⟩ := bw7.pl
              refine ⟨_, rfl, dP q, _, Dp.tupNew upd_same (.cons (.int _) (.cons (.int _) .nil)), Dp.lstNew hx7 (DpAll.same ((new_sub _ _).trans (hid_sub _ _)) dx7), dP_shaped q, dPs_shaped ps, _, rfl, ?_⟩
              have lxs7 : xs7.length < sizeLine := by
                rw [DpAll.len dx7, List.length_map]
                exact Nat.lt_of_le_of_lt lps (by decide)
              generalize upd H6 u1 (.tup [V.int (q.1 : Nat), V.int (q.2 : Nat)]) = H7 at bw7 hx7 dx7
              rw [dPs_any]
              by_cases hqm : q ∈ ps
              · rw [show (!decide (q ∈ ps)) = false by simp [hqm]]
                have ea : addP ps q = ps := if_pos hqm
                have hnx := hnext
                rw [ea] at hnx
                obtain ⟨ws7, hw7, dw7⟩ := bw7.wl
                have lws : ws7.length < sizeLine := by
                  rw [DpAll.len dw7, List.length_map]
                  exact Nat.lt_of_le_of_lt lrow (by decide)
                obtain ⟨f1, f2, f3⟩ := index_facts hqm
                refine iteF ⟨_, rfl, .inl ⟨rfl, _, SqL.of hw7⟩, _, rfl, .inl ⟨rfl, _, SqL.of hx7⟩, _, rfl, _, rfl, sl2, fun u2 hu2 => ?_⟩
                have su2 := same_upd (o := .tup [V.int (q.1 : Nat), V.int (q.2 : Nat)]) hu2
                have bw8 := bw7.same su2
                obtain ⟨xs8, hx8, dx8⟩ := bw8.pl
                refine ⟨PL, _, dP q, _, _, dP q, rfl, rfl, Dp.lstNew hx8 (DpAll.same ((new_sub _ _).trans (hid_sub _ _)) dx8), Dp.tupNew upd_same (.cons (.int _) (.cons (.int _) .nil)), dPs_shaped ps, dP_shaped q, f1, f2, f3, _, rfl, sl2, fun u3 hu3 => ?_⟩
                have su3 := same_upd (o := .tup [V.int ((ps.idxOf q : Nat) : Int), V.str (S out)]) hu3
                have bw9 := bw8.same su3
                have hw9 := su3 _ _ (su2 _ _ hw7)
                refine ⟨WL, ws7, _, rfl, rfl, hw9, lws, ?_⟩
                rw [hnx]
                exact ⟨bw9.addW (q := (ps.idxOf q, out)) hw9 (Dp.tupNew (new_hid_at (bw8.sm.free hu3) (by simp; exact ⟨(ne_of_none hx8 hu3).symm, (ne_of_none (bw8.rl.choose_spec.1) hu3).symm, (ne_of_none (su2 _ _ hw7) hu3).symm⟩) upd_same) (.cons (.int _) (.cons (.str _) .nil))), _, _, _, _, _, rfl⟩
              · rw [show (!decide (q ∈ ps)) = true by simp [hqm]]
                have ea : addP ps q = ps ++ [q] := if_neg hqm
                have hnx := hnext
                rw [ea] at hnx
                refine iteT ⟨_, rfl, .inl ⟨rfl, _, SqL.of hx7⟩, _, rfl, _, rfl, sl2, fun u2 hu2 => ?_⟩
                have su2 := same_upd (o := .tup [V.int (q.1 : Nat), V.int (q.2 : Nat)]) hu2
                have bw8 := bw7.same su2
                have hx8 := su2 _ _ hx7
                refine ⟨PL, xs7, _, rfl, rfl, hx8, lxs7, ?_⟩
                have bw9 := bw8.addP (x := .ref u2) (q := q) hx8 (Dp.tupNew (new_hid_at (bw7.sm.free hu2) (by simp; exact ⟨(ne_of_none hx7 hu2).symm, (ne_of_none (bw7.rl.choose_spec.1) hu2).symm, (ne_of_none (bw7.wl.choose_spec.1) hu2).symm⟩) upd_same) (.cons (.int _) (.cons (.int _) .nil)))
                generalize upd (upd H7 u2 (.tup [V.int (q.1 : Nat), V.int (q.2 : Nat)])) PL (.lst (xs7 ++ [.ref u2])) = H9 at bw9
                obtain ⟨xs9, hx9, dx9⟩ := bw9.pl
                obtain ⟨ws9, hw9, dw9⟩ := bw9.wl
                have lws : ws9.length < sizeLine := by
                  rw [DpAll.len dw9, List.length_map]
                  exact Nat.lt_of_le_of_lt lrow (by decide)
                have hqm' : q ∈ ps ++ [q] := by simp
                obtain ⟨f1, f2, f3⟩ := index_facts hqm'
                refine ⟨_, rfl, .inl ⟨rfl, _, SqL.of hw9⟩, _, rfl, .inl ⟨rfl, _, SqL.of hx9⟩, _, rfl, _, rfl, sl2, fun u4 hu4 => ?_⟩
                have su4 := same_upd (o := .tup [V.int (q.1 : Nat), V.int (q.2 : Nat)]) hu4
                have bwA := bw9.same su4
                obtain ⟨xsA, hxA, dxA⟩ := bwA.pl
                refine ⟨PL, _, dP q, _, _, dP q, rfl, rfl, Dp.lstNew hxA (DpAll.same ((new_sub _ _).trans (hid_sub _ _)) dxA), Dp.tupNew upd_same (.cons (.int _) (.cons (.int _) .nil)), dPs_shaped _, dP_shaped q, f1, f2, f3, _, rfl, sl2, fun u3 hu3 => ?_⟩
                have su3 := same_upd (o := .tup [V.int (((ps ++ [q]).idxOf q : Nat) : Int), V.str (S out)]) hu3
                have bwB := bwA.same su3
                have hwB := su3 _ _ (su4 _ _ hw9)
                refine ⟨WL, ws9, _, rfl, rfl, hwB, lws, ?_⟩
                rw [hnx]
                exact ⟨bwB.addW (q := ((ps ++ [q]).idxOf q, out)) hwB (Dp.tupNew (new_hid_at (bwA.sm.free hu3) (by simp; exact ⟨(ne_of_none hxA hu3).symm, (ne_of_none (bwA.rl.choose_spec.1) hu3).symm, (ne_of_none (su4 _ _ hw9) hu3).symm⟩) upd_same) (.cons (.int _) (.cons (.str _) .nil))), _, _, _, _, _, rfl⟩
          · rintro σ H4 ⟨bw, o8, o9, o10, o11, o12, rfl⟩
            have e0 : (zs z).take z.cps.size = zs z := List.take_of_length_le (by simp [zs])
            rw [e0] at bw
            obtain ⟨xs4, hx4, dx4⟩ := bw.pl
            obtain ⟨ys4, hy4, dy4⟩ := bw.rl
            obtain ⟨ws4, hw4, dw4⟩ := bw.wl
            refine ⟨_, rfl, .inl ⟨rfl, _, SqL.of hy4⟩, _, rfl, WL, ws4, rfl, .inl ⟨SqL.of hw4, fun t ht => ?_⟩⟩
            have st := same_upd (o := .tup ws4) ht
            have tR : t ≠ RL := (ne_of_none hy4 ht).symm
            have tP : t ≠ PL := (ne_of_none hx4 ht).symm
            refine ⟨RL, ys4, _, rfl, rfl, st _ _ hy4, ?_, ?_⟩
            · rw [DpAll.len dy4, List.length_map]
              exact Nat.lt_of_lt_of_le hlt (Nat.le_trans hle (Nat.le_trans b36 (by decide)))
            · have n : hid [PL, RL] (upd (upd H4 t (.tup ws4)) RL (.lst (ys4 ++ [V.ref t]))) = hid [PL, RL] (upd H4 t (.tup ws4)) := hid_upd (by simp)
              have up : Same (New H (hid [PL, RL, WL] H4)) (New H (hid [PL, RL] (upd H4 t (.tup ws4)))) := new_trans ((hid_less (by simp)).trans (hid_up ht))
              refine ⟨⟨Same.set (bw.sm.trans st) fr.2, fr, ne, ⟨xs4, by rw [upd_ne ne]; exact st _ _ hx4, ?_⟩, ⟨_, upd_same, ?_⟩⟩, _, _, _, _, _, _, _, _, rfl⟩
              · rw [n]
                have := DpAll.same up dx4
                rw [← hpe] at this
                exact this
              · rw [n]
                show DpAll K _ _ ((s.2 ++ [(rowS (jt (zs z) R1 R2 (s.1.getD s.2.length (0, 0))) (zs z) s.1 []).2]).map rowD)
                rw [List.map_append, hpe]
                exact DpAll.app (DpAll.same up dy4) (.cons (Dp.tupNew (new_at (bw.sm.free ht) (by rw [hid_out (by simp; exact ⟨tP, tR⟩)]; exact upd_same)) (DpAll.same up dw4)) .nil)
      · rw [show decide ((ys.length : Int) < (xs.length : Int)) = false from decide_eq_false (by omega)]
        have ebs : bfsR (zs z) R1 R2 = s := by rw [eb, bfs_done hlt]
        rw [ebs] at qq
        exact iteF ⟨_, rfl, RL, ys, rfl, .inl ⟨SqL.of hy, fun l hl => qq _ _ (Same.up sm hl) (tup_new (ls := [PL, RL]) sm hl dy)⟩⟩
end
end K2
set_option Elab.async false
set_option linter.all false
set_option maxRecDepth 100000
set_option maxHeartbeats 8000000
namespace K2
open PySem PySem.Spec PyProof.Rows L2 FX
section
variable {P : Program} {w : World} {K : PySem.W.Frag} {mg : Str → Option Value} {base : Heap} {A : Ad}
theorem cutS_sub (z : Str) (i : Int) : ∀ c ∈ zs (cutS z none (some i)), c ∈ zs z := by
  intro c hc
  have h : c ∈ (z.cps.toList.drop (HT.sIx z.length 0 none)).take (HT.sIx z.length z.length (some i) - HT.sIx z.length 0 none) := by
    have := hc
    simpa [zs, cutS] using this
  exact List.mem_of_mem_drop (List.mem_of_mem_take h)
def sp_ldrawn (K : PySem.W.Frag) (C : Addr) : Sp := fun vs H Q _ => ∃ (a : Addr) (ns : List Int) (k : Int) (z : Str), vs = [.ref a, .int k, .str z] ∧ Scr K H a ns ∧ 0 ≤ k ∧ k ≤ 900 ∧ z ∈ L8 ∧ ∀ p H' R, Same H H' → IsM K C H' p z R → Q (.ref p) H'
theorem ok_law_drawn (T : Txt K mg A) : FnOk P w K mg base CX0 8 A.a_law_drawn A.d_law_drawn ["script", "at", "letters"] (sp_ldrawn K A.C) := by
  refine T.f_law_drawn.F.ok sc_law_drawn (fun vs H Q E h => ?_) (fun cdv Ar outer s H vs Q E hr h => ?_)
  · obtain ⟨a, ns, k, z, rfl, _⟩ := h
    rfl
  · obtain ⟨a, ns, k, z, rfl, hS, k0, k1, hz, q⟩ := h
    refine ⟨_, (pss_cons (ps_set (i := 3) sc_law_drawn.nd rfl (Or.inl rfl) (pe_callTy call_int1 (by rfl) T.n_int (by decide +kernel) (pa_cons (pe_call (ok_law_number T) (hr.mono (by decide)) (by rfl) T.f_law_number.g T.f_law_number.F.kp T.f_law_number.b .nil pass0 (pa_cons (pv 0) (pa_cons (pe_op op_add (pv 1) pe_int) pa_nil))) pa_nil))) (pss_cons (ps_set (i := 4) sc_law_drawn.nd rfl (Or.inl rfl) (pe_slice sl_str (pv 2) po_none (po_some (pe_op op_add pe_int (pe_op op_mod (pe_callTy call_int1 (by rfl) T.n_int (by decide +kernel) (pa_cons (pe_op op_fdiv (pv 3) pe_int) pa_nil)) pe_int))))) (pss_cons (ps_if (pt_cmpR op_eq (pe_op op_mod (pe_callTy call_int1 (by rfl) T.n_int (by decide +kernel) (pa_cons (pv 3) pa_nil)) pe_int) pe_int (nomark _)) (pss_one (ps_ret (pe_call (ok_cut T) (hr.mono (by decide)) (by rfl) T.f_cut.g T.f_cut.F.kp T.f_cut.b .nil pass0 (pa_cons (pv 2) (pa_cons (pe_op op_mod (pe_callTy call_int1 (by rfl) T.n_int (by decide +kernel) (pa_cons (pe_op op_fdiv (pv 3) pe_int) pa_nil)) pe_int) pa_nil))))) pss_nil) (pss_cons (ps_if (pt_cmpR op_eq (pe_op op_mod (pe_callTy call_int1 (by rfl) T.n_int (by decide +kernel) (pa_cons (pv 3) pa_nil)) pe_int) pe_int (nomark _)) (pss_one (ps_ret (pe_call (ok_stripped T) (hr.mono (by decide)) (by rfl) T.f_stripped.g T.f_stripped.F.kp T.f_stripped.b .nil pass0 (pa_cons (pv 2) (pa_cons (pv 4) pa_nil))))) pss_nil) (pss_cons (ps_if (pt_cmpR op_eq (pe_op op_mod (pe_callTy call_int1 (by rfl) T.n_int (by decide +kernel) (pa_cons (pv 3) pa_nil)) pe_int) pe_int (nomark _)) (pss_one (ps_ret (pe_call (ok_squeezed T) (hr.mono (by decide)) (by rfl) T.f_squeezed.g T.f_squeezed.F.kp T.f_squeezed.b .nil pass0 (pa_cons (pv 2) (pa_cons (pv 4) pa_nil))))) pss_nil) (pss_one (ps_ret (pe_make T.mkC (ok_Machine_init T) (hr.mono (by decide)) (by rfl) T.g_Machine T.f_Machine_init.b .nil pass0 (pa_cons (pv 2) (pa_cons (pe_call (ok_law_rows T) (hr.mono (by decide)) (by rfl) T.f_law_rows.g T.f_law_rows.F.kp T.f_law_rows.b .nil pass0 (pa_cons (pv 0) (pa_cons (pv 1) (pa_cons (pv 2) (pa_cons pe_int pa_nil))))) pa_nil)))))))))), ?_⟩
    refine ⟨_, rfl, _, rfl, _, _, rfl, rfl, a, ns, k + 30, rfl, hS, by omega, by omega, fun r H1 s1 r0 r1 => .inl ⟨_, rfl, ?_⟩⟩
    refine ⟨_, rfl, _, rfl, _, _, rfl, rfl, ⟨by decide, by decide⟩, .inl ⟨_, rfl, _, _, rfl, rfl, pos2, _, _, rfl, rfl, _, rfl, z, rfl, l8_line hz, ?_⟩⟩
    generalize hm : cutS z none (some (1 + r / 8 % 2)) = m
    have hmz : ∀ c ∈ zs m, c ∈ zs z := by rw [← hm]; exact cutS_sub z _
    have hml : m.length ≤ 100 := by rw [← hm]; exact Nat.le_trans (cutS_length z _ _) (l8_le hz)
    have three : ∀ (b : Int), decide (V.int (r % 8) = V.int b) = true ∨ decide (V.int (r % 8) = V.int b) = false := fun b => by cases decide (V.int (r % 8) = V.int b) <;> simp
    refine ⟨_, rfl, .inl ⟨_, rfl, _, _, rfl, rfl, pos8, rfl, _, rfl, ?_⟩⟩
    rcases three 0 with e | e
    · rw [e]
      have c0 : 0 ≤ r / 16 % 3 := Int.emod_nonneg _ (by decide)
      have c1 : r / 16 % 3 < 3 := Int.emod_lt_of_pos _ (by decide)
      obtain ⟨n, hn⟩ : ∃ n : Nat, r / 16 % 3 = (n : Int) := ⟨(r / 16 % 3).toNat, by omega⟩
      refine iteT ⟨_, rfl, _, rfl, _, _, rfl, rfl, ⟨by decide, by decide⟩, .inl ⟨_, rfl, _, _, rfl, rfl, pos3, z, n, ?_, hz, by omega, fun p H2 s2 hM => q p H2 _ (s1.trans s2) hM⟩⟩
      show [V.str z, V.int (r / 16 % 3)] = _
      rw [hn]
    · rw [e]
      refine iteF ⟨_, rfl, .inl ⟨_, rfl, _, _, rfl, rfl, pos8, rfl, _, rfl, ?_⟩⟩
      rcases three 1 with e | e
      · rw [e]
        exact iteT ⟨_, rfl, _, rfl, z, m, rfl, hz, hml, hmz, fun p H2 s2 hM => q p H2 _ (s1.trans s2) hM⟩
      · rw [e]
        refine iteF ⟨_, rfl, .inl ⟨_, rfl, _, _, rfl, rfl, pos8, rfl, _, rfl, ?_⟩⟩
        rcases three 2 with e | e
        · rw [e]
          exact iteT ⟨_, rfl, _, rfl, z, m, rfl, hz, hml, hmz, fun p H2 s2 hM => q p H2 _ (s1.trans s2) hM⟩
        · rw [e]
          refine iteF ⟨_, rfl, _, rfl, _, rfl, _, rfl, a, ns, k, z, 3, rfl, hS.same s1, k0, by omega, hz, by decide, by decide, fun v H2 R s2 hMok hlen hv => ?_⟩
          obtain ⟨t, xs, rfl, _, _⟩ := Dp.tupOf hv
          exact mk_M hz hMok (by omega) (dp_new hv) fun x H3 _ s3 hM => q x H3 _ (s1.trans (s2.trans s3)) hM
/-! == of machines -/
theorem l8_code : ∀ z ∈ L8, ∀ c ∈ zs z, c < 1114112 := by decide +kernel
theorem rowsD_lay {z : Str} (hz : z ∈ L8) {R : Rows} (M : MachOk (zs z) R) : (rowsD R).canLay0 = true := by
  simp only [rowsD, PyData.canLay0]
  refine layAll_of fun d hd => ?_
  obtain ⟨row, hrow, rfl⟩ := List.mem_map.mp hd
  simp only [rowD, PyData.canLay0]
  refine layAll_of fun d hd => ?_
  obtain ⟨t, ht, rfl⟩ := List.mem_map.mp hd
  have h : PyData.strOk (S t.2) = true := by
    show (S t.2).cps.all _ = true
    rw [Array.all_eq_true']
    intro c hc
    have hc' : c ∈ t.2 := by simpa [S] using hc
    exact decide_eq_true (l8_code z hz c (M.out row hrow t ht c hc'))
  simp [turnD, PyData.canLay0, PyData.canLayAll0, h]
theorem rowsD_depth (R : Rows) : (rowsD R).depth ≤ 64 := by
  have h : PyData.depthAll (R.map rowD) ≤ 2 := depthAll_of fun d hd => by
    obtain ⟨row, _, rfl⟩ := List.mem_map.mp hd
    have h2 : PyData.depthAll (row.map turnD) ≤ 1 := depthAll_of fun d hd => by
      obtain ⟨t, _, rfl⟩ := List.mem_map.mp hd
      simp [turnD, PyData.depth, PyData.depthAll]
    simp only [rowD, PyData.depth]
    omega
  simp only [rowsD, PyData.depth]
  omega
theorem rowsD_shaped {z : Str} (hz : z ∈ L8) {R : Rows} (M : MachOk (zs z) R) : SeqAt.shaped (rowsD R) = true := shaped_of (rowsD_lay hz M) (rowsD_depth R)
def sp_eq (K : PySem.W.Frag) (C : Addr) : Sp := fun vs H Q _ => ∃ (p q : Addr) (z : Str) (R : Rows), vs = [.ref p, .ref q] ∧ IsM K C H p z R ∧ IsM K C H q z R ∧ Q (.bl true) H
theorem ok_Machine_eq (T : Txt K mg A) : FnOk P w K mg base CX0 1 A.a_Machine_eq A.d_Machine_eq ["self", "other"] (sp_eq K A.C) := by
  refine T.f_Machine_eq.F.ok sc_Machine_eq (fun vs H Q E h => ?_) (fun cdv Ar outer s H vs Q E hr h => ?_)
  · obtain ⟨p, p2, z, R, rfl, _⟩ := h
    rfl
  · obtain ⟨p, p2, z, R, rfl, h1, h2, q⟩ := h
    refine ⟨_, (pss_one (ps_ret (pe_and (pe_callB call_isi (by rfl) T.n_isinstance (by decide +kernel) (pa_cons (pv 1) (pa_cons (pe_glob (v := .ref A.C) rfl T.g_Machine rfl) pa_nil))) (pe_and (pe_cmpR op_eq (pe_fld (pv 0) rfl) (pe_fld (pv 1) rfl) (nomark _)) (pe_one (pe_cmpR (op_eqD hr.units) (pe_fld (pv 0) rfl) (pe_fld (pv 1) rfl) (nomark _))))))), ?_⟩
    obtain ⟨dx, r, hp, hd⟩ := h1.at_
    obtain ⟨dx2, r2, hp2, hd2⟩ := h2.at_
    refine ⟨_, rfl, _, _, _, _, true, rfl, .own _, isM_ty T h2, kit_self, _, rfl, iteT ?_⟩
    refine ⟨_, rfl, p, A.C, dx, _, _, rfl, hp, T.cl, T.no_letters, mfs_letters _ _, _, rfl, p2, A.C, dx2, _, _, rfl, hp2, T.cl, T.no_letters, mfs_letters _ _, rfl, _, rfl, ?_⟩
    rw [show decide (V.str z = V.str z) = true by simp]
    refine iteT ⟨_, rfl, p, A.C, dx, _, _, rfl, hp, T.cl, T.no_rows, mfs_rows _ _, _, rfl, p2, A.C, dx2, _, _, rfl, hp2, T.cl, T.no_rows, mfs_rows _ _, rowsD R, rowsD R, hd, hd2, rowsD_shaped h1.hz h1.ok, rowsD_shaped h1.hz h1.ok, ?_⟩
    rw [SeqAt.eqv_refl _ (rowsD_lay h1.hz h1.ok)]
    exact q
end
end K2
set_option Elab.async false
set_option linter.all false
set_option maxRecDepth 100000
set_option maxHeartbeats 8000000
namespace K2
open PySem PySem.Spec PyProof.Rows L2 FX
section
variable {P : Program} {w : World} {K : PySem.W.Frag} {mg : Str → Option Value} {base : Heap} {A : Ad}
theorem exm_me {K : PySem.W.Frag} {S : Addr} (h1 : PySem.W.subIn K (.ref S) (.type "BaseException") = some true) (h2 : PySem.W.isClsIn K S = true) (h3 : PySem.W.typeIn K (.ref S) = some (.type "type")) (h4 : PySem.W.subIn K (.ref S) (.ref S) = some true) :
    PySem.W.exmOne K (.ref S) (.ref S) = some true := by
  have e1 : (PySem.W.subIn K (.ref S) (.type "BaseException") == some true) = true := by rw [h1] <;> rfl
  have h2' : (PySem.W.clsIn K S).isSome = true := h2
  have e2 : ((PySem.W.clsIn K S).isSome && PySem.W.typeIn K (.ref S) == some (.type "type")) = true := by rw [h2', h3] <;> rfl
  show (if (PySem.W.subIn K (.ref S) (.type "BaseException") == some true) = true then (if ((PySem.W.clsIn K S).isSome && PySem.W.typeIn K (.ref S) == some (.type "type")) = true then PySem.W.subIn K (.ref S) (.ref S) else none) else none) = some true
  rw [if_pos e1, if_pos e2]
  exact h4
theorem mk_same {H1 : Hp} {x dx : Addr} {o : HO} (nx : H1 x = none) (ndx : H1 dx = none) : Same H1 (hid [x] (upd (upd H1 dx (.own x)) x o)) := by
  rw [hid_upd (by simp)]
  intro b u e
  rw [hid_out (by simp; exact ne_of_none e nx), upd_ne (ne_of_none e ndx)]
  exact e
def sp_law (K : PySem.W.Frag) : Sp := fun vs H Q _ => ∃ (a : Addr) (ns : List Int), vs = [.ref a] ∧ SqL K H a (ns.map V.int) ∧ ns.length ≤ 63 ∧ ∀ H', Q (.bl true) H'
theorem ok_law (T : Txt K mg A) : FnOk P w K mg base CX0 14 A.a_law A.d_law ["script"] (sp_law K) := by
  refine T.f_law.F.ok sc_law (fun vs H Q E h => ?_) (fun cdv Ar outer s H vs Q E hr h => ?_)
  · obtain ⟨a, ns, rfl, _⟩ := h
    rfl
  · obtain ⟨a, ns, rfl, hS1, hS2, q⟩ := h
    have hS : Scr K H a ns := ⟨hS1, hS2⟩
    refine ⟨_, (pss_cons (ps_set (i := 1) sc_law.nd rfl (Or.inl rfl) (pe_call (ok_law_letters T) (hr.mono (by decide)) (by rfl) T.f_law_letters.g T.f_law_letters.F.kp T.f_law_letters.b .nil pass0 (pa_cons (pv 0) (pa_cons pe_int pa_nil)))) (pss_cons (ps_par (i := 2) (j := 3) (by rfl) sc_law.nd rfl rfl (by decide) rfl rfl (pa_cons (pe_call (ok_law_drawn T) (hr.mono (by decide)) (by rfl) T.f_law_drawn.g T.f_law_drawn.F.kp T.f_law_drawn.b .nil pass0 (pa_cons (pv 0) (pa_cons pe_int (pa_cons (pv 1) pa_nil)))) (pa_cons (pe_call (ok_law_drawn T) (hr.mono (by decide)) (by rfl) T.f_law_drawn.g T.f_law_drawn.F.kp T.f_law_drawn.b .nil pass0 (pa_cons (pv 0) (pa_cons pe_int (pa_cons (pv 1) pa_nil)))) pa_nil)) (by rfl)) (pss_cons (ps_set (i := 4) sc_law.nd rfl (Or.inl rfl) (pe_call (ok_law_joined T) (hr.mono (by decide)) (by rfl) T.f_law_joined.g T.f_law_joined.F.kp T.f_law_joined.b .nil pass0 (pa_cons (pv 1) (pa_cons (pe_prop (pv 2) T.cl T.p_rows (ok_Machine_rows T) (hr.mono (by decide)) T.f_Machine_rows.b .nil pass0 rfl) (pa_cons (pe_prop (pv 3) T.cl T.p_rows (ok_Machine_rows T) (hr.mono (by decide)) T.f_Machine_rows.b .nil pass0 rfl) pa_nil))))) (pss_cons (ps_try_only (tb := fun W => tAsg (tCallS (sp_behind K A) (WE W) (tCons (tVar 2) (tCons (tVar 3) tNil))) (gName 5)) (ts := fun _ _ _ => tRet (tOp (rI0 fun i j => V.bl (decide (j < i))) (tCB (fun xs H Q => ∃ p ys, xs = [V.ref p] ∧ (SqL K H p ys ∨ SqT K H p ys) ∧ Q (V.int (ys.length : Nat)) H) (tCons (tVar 4) tNil)) (tC (.int 6)))) rfl rfl ⟨rfl, by decide, .inl T.gX_TooLarge⟩ takes0 (fun W pn xe tk _ => (pss_one (ps_set (i := 5) sc_law.nd rfl (Or.inl rfl) (pe_callS (ok_behind T) (hr.mono (by decide)) (by rfl) T.f_behind.g T.f_behind.F.kp T.f_behind.b (fun σ => passAt tk σ) (pa_cons (pv 2) (pa_cons (pv 3) pa_nil)))))) (fun a oe cls d pn _ _ => by exact (pss_one (ps_ret (pe_cmpR op_gt (pe_callB call_len_seq (by rfl) T.n_len (by decide +kernel) (pa_cons (pv 4) pa_nil)) pe_int (nomark _)))))) (pss_cons (ps_if (PW.pt (pw_or (pt_cmpR op_gt (pe_callB call_len_seq (by rfl) T.n_len (by decide +kernel) (pa_cons (pv 4) pa_nil)) pe_int (nomark _)) (pw_or1 (pt_cmpR (op_neOwn (ok_Machine_eq T) (hr.mono (by decide)) T.neC T.m_eq.at_ T.m_eq.fn T.iM T.f_Machine_eq.b) (pv 5) (pe_make T.mkC (ok_Machine_init T) (hr.mono (by decide)) (by rfl) T.g_Machine T.f_Machine_init.b .nil pass0 (pa_cons (pv 1) (pa_cons (pv 4) pa_nil))) (nomark _))))) (pss_one (ps_ret pe_bl)) pss_nil) (pss_cons (ps_for PassesOwn.never rfl (pi_range1 (by rfl) T.n_range (pa_cons pe_int pa_nil)) (pg_name (i := 6) sc_law.nd rfl (Or.inl rfl)) (pss_cons (ps_set (i := 7) sc_law.nd rfl (Or.inl rfl) (pe_call (ok_law_value T) (hr.mono (by decide)) (by rfl) T.f_law_value.g T.f_law_value.F.kp T.f_law_value.b .nil pass0 (pa_cons (pv 0) (pa_cons (pe_op op_add pe_int (pv 6)) (pa_cons (pv 1) (pa_cons pe_int pa_nil)))))) (pss_one (ps_if (pt_cmpR op_ne (pe_meth (pv 5) T.cl T.m_made (ok_Machine_made T) (hr.mono (by decide)) T.f_Machine_made.b .nil pass0 (pa_cons (pv 7) pa_nil)) (pe_meth (pv 3) T.cl T.m_made (ok_Machine_made T) (hr.mono (by decide)) T.f_Machine_made.b .nil pass0 (pa_cons (pe_meth (pv 2) T.cl T.m_made (ok_Machine_made T) (hr.mono (by decide)) T.f_Machine_made.b .nil pass0 (pa_cons (pv 7) pa_nil)) pa_nil)) (nomark _)) (pss_one (ps_ret pe_bl)) pss_nil)))) (pss_cons (ps_par (i := 8) (j := 9) (by rfl) sc_law.nd rfl rfl (by decide) rfl rfl (pa_cons (pe_callS (ok_behind T) (hr.mono (by decide)) (by rfl) T.f_behind.g T.f_behind.F.kp T.f_behind.b (fun σ => passAt takes0 σ) (pa_cons (pe_call (ok_plain T) (hr.mono (by decide)) (by rfl) T.f_plain.g T.f_plain.F.kp T.f_plain.b .nil pass0 (pa_cons (pv 1) pa_nil)) (pa_cons (pv 2) pa_nil))) (pa_cons (pe_callS (ok_behind T) (hr.mono (by decide)) (by rfl) T.f_behind.g T.f_behind.F.kp T.f_behind.b (fun σ => passAt takes0 σ) (pa_cons (pv 2) (pa_cons (pe_call (ok_plain T) (hr.mono (by decide)) (by rfl) T.f_plain.g T.f_plain.F.kp T.f_plain.b .nil pass0 (pa_cons (pv 1) pa_nil)) pa_nil))) pa_nil)) (by rfl)) (pss_cons (ps_set (i := 7) sc_law.nd rfl (Or.inl rfl) (pe_call (ok_law_value T) (hr.mono (by decide)) (by rfl) T.f_law_value.g T.f_law_value.F.kp T.f_law_value.b .nil pass0 (pa_cons (pv 0) (pa_cons pe_int (pa_cons (pv 1) (pa_cons pe_int pa_nil)))))) (pss_one (ps_ret (pe_chain op_eq op_eq (pe_meth (pv 8) T.cl T.m_made (ok_Machine_made T) (hr.mono (by decide)) T.f_Machine_made.b .nil pass0 (pa_cons (pv 7) pa_nil)) (pe_meth (pv 9) T.cl T.m_made (ok_Machine_made T) (hr.mono (by decide)) T.f_Machine_made.b .nil pass0 (pa_cons (pv 7) pa_nil)) (pe_meth (pv 2) T.cl T.m_made (ok_Machine_made T) (hr.mono (by decide)) T.f_Machine_made.b .nil pass0 (pa_cons (pv 7) pa_nil))))))))))))), ?_⟩
    refine ⟨_, rfl, a, ns, 0, rfl, hS, by decide, by decide, fun z H1 s1 hz => ?_⟩
    refine ⟨_, rfl, _, rfl, a, ns, 10, z, rfl, hS.same s1, by decide, by decide, hz, fun p1 H2 R1 s2 h1 => ?_⟩
    refine ⟨_, rfl, _, rfl, a, ns, 50, z, rfl, hS.same (s1.trans s2), by decide, by decide, hz, fun p2 H3 R2 s3 h2 => ⟨_, _, rfl, ?_⟩⟩
    have h1' := h1.same s3
    obtain ⟨dx1, r1, hp1, hd1⟩ := h1'.at_
    obtain ⟨dx2, r2, hp2, hd2⟩ := h2.at_
    have b36 : R1.length * R2.length ≤ 36 := Nat.mul_le_mul h1.six h2.six
    refine ⟨_, rfl, _, rfl, p1, dx1, _, rfl, hp1, p1, z, R1, rfl, h1', fun v1 d1 => ⟨_, rfl, p2, dx2, _, rfl, hp2, p2, z, R2, rfl, h2, fun v2 d2 => ?_⟩⟩
    refine ⟨z, v1, v2, R1, R2, rfl, hz, d1, d2, h1.ok, h2.ok, b36, fun v H4 s4 hv => ?_⟩
    have hdue := dp_new hv
    obtain ⟨t, xs, rfl, hts, hta⟩ := Dp.tupOf hdue
    have lxs : xs.length = (bfsR (zs z) R1 R2).2.length := by rw [DpAll.len hta, List.length_map]
    have s14 := (s1.trans s2).trans (s3.trans s4)
    refine ⟨_, rfl, _, rfl, p1, p2, z, R1, R2, rfl, h1'.same s4, h2.same s4, fun h6 x H5 s5 hx => ?_, fun h6 H5 s5 => ?_⟩
    · obtain ⟨dxx, rx, hpx, hdx⟩ := hx.at_
      refine ⟨_, rfl, t, xs, rfl, .inr (SqT.same s5 hts), _, _, rfl, rfl, _, rfl, ?_⟩
      rw [show decide ((6 : Int) < (xs.length : Int)) = false from decide_eq_false (by omega)]
      refine iteF ⟨_, rfl, _, rfl, _, rfl, ?_⟩
      intro y0 dy0 ny0 ndy0 ney0
      have sA := mk_same (o := .ins A.C dy0 []) ny0 ndy0
      refine ⟨y0, dy0, t, z, _, rfl, upd_same, hz, hx.ok, h6, Dp.same sA (Dp.same s5 hdue), fun H6 sB hy => ⟨rfl, ?_⟩⟩
      have s6 : Same H5 H6 := sA.trans (sB.trans (hid_sub _ _))
      have hM : IsM K A.C H6 y0 z (bfsR (zs z) R1 R2).2 := ⟨⟨dy0, t, hy, Dp.same (s5.trans s6) hdue⟩, hz, hx.ok, h6⟩
      let y := y0
      obtain ⟨dy, ry, hpy, hdy⟩ := hM.at_
      refine ⟨x, y, dxx, dy, _, _, rfl, rfl, s6 _ _ hpx, hpy, x, y, z, _, rfl, hx.same s6, hM, true, rfl, _, rfl, iteF ?_⟩
      have s16 := (s14.trans s5).trans s6
      refine ⟨8, rfl, by decide, by decide, for_range (lo := 0) (n := 8) (fun i σ H' => Same H6 H' ∧ ∃ o6 o7 o8 o9, σ = [some (.ref a), some (.str z), some (.ref p1), some (.ref p2), some (.ref t), some (.ref x), o6, o7, o8, o9]) ⟨Same.refl _, _, _, _, _, rfl⟩ ?_ ?_⟩
      · rintro i σ H7 hi ⟨sm, o6, o7, o8, o9, rfl⟩
        refine ⟨_, rfl, _, rfl, _, _, rfl, rfl, _, rfl, a, ns, 90 + (0 + (i : Int)), z, 9, rfl, hS.same (s16.trans sm), by omega, by omega, hz, by decide, fun v H8 s8 hvl hvz => ?_⟩
        have hx8 := ((hx.same s6).same sm).same s8
        have h18 := ((h1'.same ((s4.trans s5).trans s6)).same sm).same s8
        have h28 := ((h2.same ((s4.trans s5).trans s6)).same sm).same s8
        obtain ⟨dx8, rx8, hpx8, _⟩ := hx8.at_
        refine ⟨_, rfl, x, dx8, _, rfl, hpx8, mfs_no _ _ (by decide +kernel) (by decide +kernel), _, rfl, x, v, z, _, rfl, hx8, by omega, hvz, fun H9 s9 => ?_⟩
        obtain ⟨dx9, rx9, hpx9, _⟩ := (h28.same s9).at_
        refine ⟨_, rfl, p2, dx9, _, rfl, hpx9, mfs_no _ _ (by decide +kernel) (by decide +kernel), ?_⟩
        obtain ⟨dxa, rxa, hpxa, _⟩ := (h18.same s9).at_
        have l1 : (madeM (zs z) R1 (zs v)).length ≤ v.length := by
          have := runM_len h1.ok (zs v) 0 h1.ok.pos hvz
          rw [zs_length] at this
          exact this
        have z1 : ∀ c ∈ madeM (zs z) R1 (zs v), c ∈ zs z := runM_out h1.ok (zs v) 0 h1.ok.pos hvz
        refine ⟨_, rfl, p1, dxa, _, rfl, hpxa, mfs_no _ _ (by decide +kernel) (by decide +kernel), _, rfl, p1, v, z, R1, rfl, h18.same s9, by omega, hvz, fun H10 s10 => ?_⟩
        refine ⟨p2, S (madeM (zs z) R1 (zs v)), z, R2, rfl, (h28.same s9).same s10, by rw [S_len]; omega, by rw [zs_S]; exact z1, fun H11 s11 => ⟨rfl, _, rfl, ?_⟩⟩
        rw [zs_S, bfsR_made h1.ok h2.ok b36 hvz]
        rw [show (!decide (V.str (S (madeM (zs z) R2 (madeM (zs z) R1 (zs v)))) = V.str (S (madeM (zs z) R2 (madeM (zs z) R1 (zs v)))))) = false by simp]
        exact iteF ⟨sm.trans (s8.trans (s9.trans (s10.trans s11))), _, _, _, _, rfl⟩
      · rintro σ H7 ⟨sm, o6, o7, o8, o9, rfl⟩
        have h17 := (h1'.same ((s4.trans s5).trans s6)).same sm
        have P0 := plain_ok (zs z)
        have six := h1.six
        have pl1 : (plainR (zs z)).length = 1 := rfl
        have ba : (plainR (zs z)).length * R1.length ≤ 36 := by rw [pl1]; omega
        have bb : R1.length * (plainR (zs z)).length ≤ 36 := by rw [pl1]; omega
        have la := bfsR_le P0 h1.ok ba
        have lb := bfsR_le h1.ok P0 bb
        rw [pl1] at la lb
        refine ⟨_, rfl, z, rfl, hz, fun q1 H8 s8 hq1 => ⟨_, rfl, q1, p1, z, _, R1, rfl, hq1, h17.same s8, fun _ xa H9 s9 hxa => ?_, fun h _ _ => absurd h (by omega)⟩⟩
        refine ⟨_, rfl, _, rfl, z, rfl, hz, fun q2 H10 s10 hq2 => ⟨p1, q2, z, R1, _, rfl, (h17.same s8).same (s9.trans s10), hq2, fun _ xb H11 s11 hxb => ⟨_, _, rfl, ?_⟩, fun h _ _ => absurd h (by omega)⟩⟩
        have s711 := s8.trans (s9.trans (s10.trans s11))
        refine ⟨_, rfl, _, rfl, a, ns, 99, z, 9, rfl, hS.same (s16.trans (sm.trans s711)), by decide, by decide, hz, by decide, fun v H12 s12 hvl hvz => ?_⟩
        have ha := hxa.same (s10.trans (s11.trans s12))
        have hb := hxb.same s12
        have h1c := h17.same (s711.trans s12)
        obtain ⟨da, ra, hpa, _⟩ := ha.at_
        refine ⟨_, rfl, xa, da, _, rfl, hpa, mfs_no _ _ (by decide +kernel) (by decide +kernel), _, rfl, xa, v, z, _, rfl, ha, by omega, hvz, fun H13 s13 => ?_⟩
        obtain ⟨db, rb, hpb, _⟩ := (hb.same s13).at_
        refine ⟨_, rfl, xb, db, _, rfl, hpb, mfs_no _ _ (by decide +kernel) (by decide +kernel), _, rfl, xb, v, z, _, rfl, hb.same s13, by omega, hvz, fun H14 s14 => ⟨rfl, _, rfl, ?_⟩⟩
        have z1 : ∀ c ∈ madeM (zs z) R1 (zs v), c ∈ zs z := runM_out h1.ok (zs v) 0 h1.ok.pos hvz
        rw [bfsR_made P0 h1.ok ba hvz, bfsR_made h1.ok P0 bb hvz, made_plain hvz, made_plain z1]
        rw [show decide (V.str (S (madeM (zs z) R1 (zs v))) = V.str (S (madeM (zs z) R1 (zs v)))) = true by simp]
        obtain ⟨dc, rc, hpc, _⟩ := (h1c.same (s13.trans s14)).at_
        refine iteT ⟨_, rfl, p1, dc, _, rfl, hpc, mfs_no _ _ (by decide +kernel) (by decide +kernel), _, rfl, p1, v, z, R1, rfl, h1c.same (s13.trans s14), by omega, hvz, fun H15 s15 => ⟨rfl, ?_⟩⟩
        rw [show decide (V.str (S (madeM (zs z) R1 (zs v))) = V.str (S (madeM (zs z) R1 (zs v)))) = true by simp]
        exact q _
    · refine ⟨true, exm_me T.bX_TooLarge T.iX_TooLarge T.tX_TooLarge T.sX_TooLarge, fun _ a0 ha0 => ?_, fun q => nomatch q⟩
      refine ⟨_, rfl, t, xs, rfl, .inr (SqT.same s5 hts), _, _, rfl, rfl, ?_⟩
      show Q (.bl (decide ((6 : Int) < (xs.length : Int)))) H5
      rw [decide_eq_true (by omega)]
      exact q _
end
end K2
set_option Elab.async false
set_option linter.all false
set_option maxRecDepth 100000
set_option maxHeartbeats 8000000
namespace K2
open PySem PySem.Spec PyProof.Rows L2 FX
theorem binds_law {K : PySem.W.Frag} {mg : Str → Option Value} {A : Ad} (T : Txt K mg A) (s : Shared) (u : Value) : BindsTo s A.d_law ⟨[u], []⟩ [("script", u)] := by
  obtain ⟨_, _, _, _, _, _, _, _, _, e, _, _⟩ := T.f_law.F.ex
  rw [e]
  exact .of_eq rfl
theorem walk {l : PySem.W.OpenLaw} {q : Program} {loose : List Str} {XP : (Str → Option Value) → Heap → Prop} {YP : World → Heap → Prop} {d : DefRec} {K : Params → PySem.W.Frag} (hn : l.most = some 63) (hdf : d.params.defaults = [])
    (hY : ∀ (w : World) (h : Heap), YP w h → (K w.params).In h)
    (F : ∀ (w : World) (mg : Str → Option Value) (fa : Addr) (h : Heap), (K w.params).In h → h.Ns mainGlobals mg → mg d.name = some (.ref fa) →
      ∃ fd : FuncData, (∀ (s : Shared) (u : Value), BindsTo s fd ⟨[u], []⟩ [("script", u)]) ∧ ∀ base : Heap, (K w.params).In base → base.Ns mainGlobals mg → FnOk l.prog w (K w.params) mg base CX0 14 fa fd ["script"] (sp_law (K w.params))) :
    PySem.W.WalkO q loose XP YP l.row.toRowW d [] (fun f vs => PySem.call f vs) :=
  L2.walk_of (n := 63) (k := 14) (x := "script") (CX := fun _ => CX0) (sp := fun w => sp_law (K w.params)) hn (by decide) hdf ⟨rfl, by decide, by decide⟩ hY F (fun _ _ a ns hl _ hS => ⟨a, ns, rfl, hS, hl, fun _ => rfl⟩) fun _ _ _ _ _ z => z
theorem fin {l : PySem.W.OpenLaw} {w : World} {K : PySem.W.Frag} {mg : Str → Option Value} {fa : Addr} (X : ∃ A : Ad, Txt K mg A ∧ A.a_law = fa) :
    ∃ fd : FuncData, (∀ (s : Shared) (u : Value), BindsTo s fd ⟨[u], []⟩ [("script", u)]) ∧ ∀ base : Heap, K.In base → base.Ns mainGlobals mg → FnOk l.prog w K mg base CX0 14 fa fd ["script"] (sp_law K) := by
  obtain ⟨A, T, rfl⟩ := X
  exact ⟨A.d_law, binds_law T, fun base _ _ => ok_law T⟩
end K2
open PySem PySem.W PyProof.Rows in
set_option maxRecDepth 100000 in
set_option maxHeartbeats 0 in
theorem PySem.Challenge.cw_foldlook_k02_whole_behind_holds : PySem.Challenge.rw_foldlook_k02_whole_behind.Holds := by
  w_on; o_law; k_head; (case hw => w_witness2)
  k_fill
  refine K2.walk (l := PySem.Challenge.rw_foldlook_k02_whole_behind) rfl rfl (fun w h Y => PySem.W.kIn_of Y) ?F
  case F =>
    intro w mg fa h KX G hmg
    refine K2.fin ?_
    refine' K2.all_mk KX G hmg ?aC ?a1 ?l1 ?c1 ?k1 ?a2 ?l2 ?c2 ?k2 ?a3 ?l3 ?c3 ?k3 ?a4 ?l4 ?c4 ?k4 ?a5 ?l5 ?c5 ?k5 ?a6 ?i6 ?l6 ?c6 ?k6 ?a7 ?i7 ?l7 ?c7 ?k7 ?a8 ?ag8 ?at8 ?ar8 ?l8 ?c8 ?k8 ?a9 ?ag9 ?at9 ?ar9 ?l9 ?c9 ?k9 ?a10 ?i10 ?l10 ?c10 ?k10 ?a11 ?i11 ?l11 ?c11 ?k11 ?a12 ?i12 ?l12 ?c12 ?k12 ?a13 ?l13 ?c13 ?k13 ?a14 ?l14 ?c14 ?k14 ?a15 ?l15 ?c15 ?k15 ?a16 ?l16 ?c16 ?k16 ?a17 ?l17 ?c17 ?k17 ?a18 ?l18 ?c18 ?k18 ?a19 ?l19 ?c19 ?k19 ?a20 ?l20 ?c20 ?k20 ?a21 ?l21 ?c21 ?k21 ?a22 ?l22 ?c22 ?k22 ?a23 ?l23 ?c23 ?k23 ?a24 ?l24 ?c24 ?k24 ?a25 ?l25 ?c25 ?k25 ?a26 ?l26 ?c26 ?k26 ?a27 ?l27 ?c27 ?k27 ?a28 ?l28 ?c28 ?k28 ?a29 ?l29 ?c29 ?k29 ?a30 ?l30 ?c30 ?k30 ?a31 ?l31 ?c31 ?k31 ?a32 ?l32 ?c32 ?k32 ?a33 ?l33 ?c33 ?k33 ?pg ?hd ?po ?sa ?mk ?kc ?iA ?iN ?iT ?iM ?ne ?na0 ?na1 ?xaTooLarge ?xxTooLarge ?xkTooLarge ?xbTooLarge ?xtTooLarge ?xiTooLarge ?xsTooLarge ?ccSIGNS ?ccMOST_STATES ?ccMOST_KEPT ?zall ?zbool ?zenumerate ?zint ?zisinstance ?zlen ?zrange ?zstr ?zsum ?zsuper ?ztuple
    (case aC => k_is)
    (case a1 => k_is)
    (case l1 => k_is)
    (case c1 => k_is)
    (case k1 => k_is)
    (case a2 => k_is)
    (case l2 => k_is)
    (case c2 => k_is)
    (case k2 => k_is)
    (case a3 => k_is)
    (case l3 => k_is)
    (case c3 => k_is)
    (case k3 => k_is)
    (case a4 => k_is)
    (case l4 => k_is)
    (case c4 => k_is)
    (case k4 => k_is)
    (case a5 => k_is)
    (case l5 => k_is)
    (case c5 => k_is)
    (case k5 => k_is)
    (case a6 => k_is)
    (case i6 => k_is)
    (case l6 => k_is)
    (case c6 => k_is)
    (case k6 => k_is)
    (case a7 => k_is)
    (case i7 => k_is)
    (case l7 => k_is)
    (case c7 => k_is)
    (case k7 => k_is)
    (case a8 => k_is)
    (case ag8 => k_is)
    (case at8 => k_is)
    (case ar8 => k_is)
    (case l8 => k_is)
    (case c8 => k_is)
    (case k8 => k_is)
    (case a9 => k_is)
    (case ag9 => k_is)
    (case at9 => k_is)
    (case ar9 => k_is)
    (case l9 => k_is)
    (case c9 => k_is)
    (case k9 => k_is)
    (case a10 => k_is)
    (case i10 => k_is)
    (case l10 => k_is)
    (case c10 => k_is)
    (case k10 => k_is)
    (case a11 => k_is)
    (case i11 => k_is)
    (case l11 => k_is)
    (case c11 => k_is)
    (case k11 => k_is)
    (case a12 => k_is)
    (case i12 => k_is)
    (case l12 => k_is)
    (case c12 => k_is)
    (case k12 => k_is)
    (case a13 => k_is)
    (case l13 => k_is)
    (case c13 => k_is)
    (case k13 => k_is)
    (case a14 => k_is)
    (case l14 => k_is)
    (case c14 => k_is)
    (case k14 => k_is)
    (case a15 => k_is)
    (case l15 => k_is)
    (case c15 => k_is)
    (case k15 => k_is)
    (case a16 => k_is)
    (case l16 => k_is)
    (case c16 => k_is)
    (case k16 => k_is)
    (case a17 => k_is)
    (case l17 => k_is)
    (case c17 => k_is)
    (case k17 => k_is)
    (case a18 => k_is)
    (case l18 => k_is)
    (case c18 => k_is)
    (case k18 => k_is)
    (case a19 => k_is)
    (case l19 => k_is)
    (case c19 => k_is)
    (case k19 => k_is)
    (case a20 => k_is)
    (case l20 => k_is)
    (case c20 => k_is)
    (case k20 => k_is)
    (case a21 => k_is)
    (case l21 => k_is)
    (case c21 => k_is)
    (case k21 => k_is)
    (case a22 => k_is)
    (case l22 => k_is)
    (case c22 => k_is)
    (case k22 => k_is)
    (case a23 => k_is)
    (case l23 => k_is)
    (case c23 => k_is)
    (case k23 => k_is)
    (case a24 => k_is)
    (case l24 => k_is)
    (case c24 => k_is)
    (case k24 => k_is)
    (case a25 => k_is)
    (case l25 => k_is)
    (case c25 => k_is)
    (case k25 => k_is)
    (case a26 => k_is)
    (case l26 => k_is)
    (case c26 => k_is)
    (case k26 => k_is)
    (case a27 => k_is)
    (case l27 => k_is)
    (case c27 => k_is)
    (case k27 => k_is)
    (case a28 => k_is)
    (case l28 => k_is)
    (case c28 => k_is)
    (case k28 => k_is)
    (case a29 => k_is)
    (case l29 => k_is)
    (case c29 => k_is)
    (case k29 => k_is)
    (case a30 => k_is)
    (case l30 => k_is)
    (case c30 => k_is)
    (case k30 => k_is)
    (case a31 => k_is)
    (case l31 => k_is)
    (case c31 => k_is)
    (case k31 => k_is)
    (case a32 => k_is)
    (case l32 => k_is)
    (case c32 => k_is)
    (case k32 => k_is)
    (case a33 => k_is)
    (case l33 => k_is)
    (case c33 => k_is)
    (case k33 => k_is)
    (case pg => k_is)
    (case hd => k_is)
    (case po => k_is)
    (case sa => k_is)
    (case mk => k_is)
    (case kc => k_is)
    (case iA => k_is)
    (case iN => k_is)
    (case iT => k_is)
    (case iM => k_is)
    (case ne => k_is)
    (case na0 => k_is)
    (case na1 => k_is)
    (case xaTooLarge => k_is)
    (case xxTooLarge => k_exc)
    (case xkTooLarge => k_is)
    (case xbTooLarge => k_is)
    (case xtTooLarge => k_is)
    (case xiTooLarge => k_is)
    (case xsTooLarge => first | rfl | k_is)
    (case ccSIGNS => k_is)
    (case ccMOST_STATES => k_is)
    (case ccMOST_KEPT => k_is)
    (case zall => k_is)
    (case zbool => k_is)
    (case zenumerate => k_is)
    (case zint => k_is)
    (case zisinstance => k_is)
    (case zlen => k_is)
    (case zrange => k_is)
    (case zstr => k_is)
    (case zsum => k_is)
    (case zsuper => k_is)
    (case ztuple => k_is)
