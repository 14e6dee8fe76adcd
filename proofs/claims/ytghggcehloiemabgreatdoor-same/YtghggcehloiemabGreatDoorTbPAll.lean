import Derived.Test.YtghggcehloiemabGreatDoorPrNAll
namespace Go.Proofs.YtghggcehloiemabGreatDoor
set_option linter.unusedVariables false
namespace P
section shop
variable {κ ν : Type} [DecidableEq κ]
variable {ek : κ → List UInt8} {ev : ν → List UInt8} {ok : κ → Prop} {c : List I} {kp vp : List Nat} {sl : Nat} {m : List UInt8} {ka va : Nat} {L : List (κ × ν)} {T : List (List UInt8)}
/-- As shop_do, asking for a key and a value only where the task does. -/
theorem shop_do2 (hp : Pg c kp vp sl) (hx : Cx kp vp sl m ka va T) (hs : Sim ek ev ok kp.length L T) {key : κ} {value : ν} (a : Nat) (hkey : a = 1 ∨ a = 2 ∨ a = 3 → ok key ∧ bytesOf m ka kp = ek key) (hV : a = 2 → bytesOf m va vp = ev value) :
    ∃ (m' : List UInt8) (res : Nat) (T' : List (List UInt8)), Did c m a ka va m' res (mapDo sl a key value L).1 ∧ m'.length = m.length ∧ Sim ek ev ok kp.length (mapDo sl a key value L).2 T' ∧ Tab (kp.length + vp.length) m' T' ∧ T'.length ≤ sl ∧ (a = 4 → res = L.length) ∧
      ((a = 1 ∧ (mapDo sl a key value L).1 = 0) → ∃ i v0, atK L key = some i ∧ L[i]? = some (key, v0) ∧ bytesOf m' va vp = ev v0 ∧ ∀ x, (∀ j, j < vp.length → va + at_ vp j ≠ x) → m'[x]? = m[x]?) ∧
      (¬ (a = 1 ∧ (mapDo sl a key value L).1 = 0) → ∀ x, 1 + sl * (kp.length + vp.length) ≤ x → m'[x]? = m[x]?) := by
  have hroom := hx.room
  have hka := hx.hka
  have hva := hx.hva
  have hfew := hx.few
  have hlen := hs.len
  have lt_room : ∀ x, x < 1 + T.length * (kp.length + vp.length) → x < 1 + sl * (kp.length + vp.length) := fun x h => by
    have := Nat.mul_le_mul_right (kp.length + vp.length) hfew; omega
  by_cases h2 : a = 2
  · exact shop_do hp hx hs (hkey (by omega)).1 (hkey (by omega)).2 (hV h2) a
  by_cases h1 : a = 1
  · obtain ⟨hk0, hK⟩ := hkey (Or.inl h1)
    subst h1
    rcases run_find hp hx with ⟨e, t, m', hT, hk, hd, hl, ho, hv⟩ | ⟨hno, hd⟩
    · rw [hK] at hk
      obtain ⟨i, v0, g1, g2, g3⟩ := hs.at hT hk0 hk
      have hm : mapDo sl 1 key value L = (0, L) := by unfold mapDo; rw [if_pos rfl, g1]; rfl
      rw [hm]
      refine ⟨m', 1, T, hd, hl, hs, hx.tab.same (fun x hxx => ho x (fun j hj he => ?_)), hfew, fun h => absurd h (by decide), fun _ => ⟨i, v0, g1, g2, ?_, ho⟩, fun h => absurd ⟨rfl, rfl⟩ h⟩
      · have := lt_room x hxx; omega
      · have htl := (hx.tab.ent e t hT).1
        have hkl : (ek key).length = kp.length := hs.klen key hk0
        have hvl : (ev v0).length = vp.length := by rw [g3, List.length_append] at htl; omega
        apply List.ext_getElem?
        intro j
        rcases Nat.lt_or_ge j vp.length with hj | hj
        · rw [bytesOf_get _ _ _ _ hj (by rw [hl]; exact hx.vin j hj), hv j hj, g3, List.getElem?_append_right (by omega)]
          congr 1; omega
        · rw [List.getElem?_eq_none (by rw [bytesOf_len]; exact hj), List.getElem?_eq_none (by omega)]
    · rw [hK] at hno
      have hat := atK_none (hs.absent hno)
      have hm : mapDo sl 1 key value L = (1, L) := by unfold mapDo; rw [if_pos rfl, hat]; rfl
      rw [hm]
      exact ⟨m, 1, T, hd, rfl, hs, hx.tab, hfew, fun h => absurd h (by decide), fun h => absurd (show (1 : Nat) = 0 from h.2) (by decide), fun _ x _ => rfl⟩
  by_cases h3 : a = 3
  · obtain ⟨hk0, hK⟩ := hkey (by omega)
    subst h3
    rcases run_take hp hx with ⟨e, t, l, m', hT, hk, hl', hd, hl, ht, ho⟩ | ⟨hno, hd⟩
    · rw [hK] at hk
      obtain ⟨i, v0, g1, g2, g3⟩ := hs.at hT hk0 hk
      have hm : mapDo sl 3 key value L = (0, L.eraseIdx i) := by unfold mapDo; rw [if_neg (by decide), if_neg (by decide), if_pos rfl, g1]
      rw [hm]
      rw [g3] at hT
      exact ⟨m', 3, _, hd, hl, hs.drop hT g2 hl', ht, by rw [List.length_take, List.length_set]; omega, fun h => absurd h (by decide), fun h => absurd h.1 (by decide), fun _ => ho⟩
    · rw [hK] at hno
      have hat := atK_none (hs.absent hno)
      have hm : mapDo sl 3 key value L = (1, L) := by unfold mapDo; rw [if_neg (by decide), if_neg (by decide), if_pos rfl, hat]
      rw [hm]
      exact ⟨m, 3, T, hd, rfl, hs, hx.tab, hfew, fun h => absurd h (by decide), fun h => absurd h.1 (by decide), fun _ x _ => rfl⟩
  by_cases h4 : a = 4
  · subst h4
    have hm : mapDo sl 4 key value L = (0, L) := rfl
    rw [hm]
    exact ⟨m, T.length, T, run_count hp (by have := hx.hsl; omega) hx.tab ka va, rfl, hs, hx.tab, hfew, fun _ => hlen, fun h => absurd h.1 (by decide), fun _ x _ => rfl⟩
  by_cases h5 : a = 5
  · subst h5
    have hm : mapDo sl 5 key value L = (0, []) := rfl
    rw [hm]
    obtain ⟨m', hd, hl, ht, ho⟩ := run_empty hp (show 0 < m.length by omega) (kp.length + vp.length) ka va
    exact ⟨m', 5, [], hd, hl, hs.empty, ht, Nat.zero_le _, fun h => absurd h (by decide), fun h => absurd h.1 (by decide), fun _ x hxx => ho x (by omega)⟩
  have hm : mapDo sl a key value L = (3, L) := by unfold mapDo; rw [if_neg h1, if_neg h2, if_neg h3, if_neg h4, if_neg h5]
  rw [hm]
  exact ⟨m, a, T, run_none hp m a ka va h1 h2 h3 h4 h5, rfl, hs, hx.tab, hfew, fun h => absurd h h4, fun h => absurd h.1 h1, fun _ x _ => rfl⟩
end shop
/-- What a table's bytes and a plain map have to do with each other. -/
structure TabP (tk tv : Ty 4) (sl : Nat) (mem : List UInt8) (L : List (ByteArray × ByteArray)) (T : List (List UInt8)) : Prop where
  kk : Known tk
  kv : Known tv
  sl16 : sl ≤ 16
  sim : Sim (fun k : ByteArray => encV tk k.data.toList) (fun v : ByteArray => encV tv v.data.toList) (fun k : ByteArray => IsVal tk k.data.toList) (cov (parts 4 tk)).length L T
  vals : ∀ p ∈ L, IsVal tv p.2.data.toList
  tab : Tab ((cov (parts 4 tk)).length + (cov (parts 4 tv)).length) mem T
  few : T.length ≤ sl
  len : mem.length = 1 + sl * ((cov (parts 4 tk)).length + (cov (parts 4 tv)).length)
theorem TabP.short {tk tv : Ty 4} {sl : Nat} {mem : List UInt8} {L : List (ByteArray × ByteArray)} {T : List (List UInt8)} (h : TabP tk tv sl mem L T) : mem.length ≤ 1025 := by
  have h1 := h.sl16; have h2 := h.kk.covl; have h3 := h.kk.sz32; have h4 := h.kv.covl; have h5 := h.kv.sz32
  have := Nat.mul_le_mul h1 (show (cov (parts 4 tk)).length + (cov (parts 4 tv)).length ≤ 64 by omega)
  rw [h.len]; omega
theorem mapDo_sub {sl a : Nat} {k v : ByteArray} {L : List (ByteArray × ByteArray)} (h2 : a ≠ 2) : ∀ p ∈ (mapDo sl a k v L).2, p ∈ L := by
  intro p hp
  unfold mapDo at hp
  by_cases h1 : a = 1
  · rw [if_pos h1] at hp; exact hp
  rw [if_neg h1, if_neg h2] at hp
  by_cases h3 : a = 3
  · rw [if_pos h3] at hp
    cases hq : atK L k with
    | none => rw [hq] at hp; exact hp
    | some i => rw [hq] at hp; exact (List.eraseIdx_sublist L _).mem hp
  rw [if_neg h3] at hp
  by_cases h4 : a = 4
  · rw [if_pos h4] at hp; exact hp
  rw [if_neg h4] at hp
  by_cases h5 : a = 5
  · rw [if_pos h5] at hp; simp at hp
  · rw [if_neg h5] at hp; exact hp
/-- One run of a table's program, key and value right behind the table. -/
theorem tab_run {tk tv : Ty 4} {sl : Nat} {mem : List UInt8} {L : List (ByteArray × ByteArray)} {T : List (List UInt8)} (h : TabP tk tv sl mem L T) (k v : ByteArray) (bk bv : List UInt8) (t : Nat) (hbk : bk.length = (sz 4 tk).1) (hbv : bv.length = (sz 4 tv).1)
    (hk : t = 1 ∨ t = 2 ∨ t = 3 → IsVal tk k.data.toList ∧ bytesOf bk 0 (cov (parts 4 tk)) = encV tk k.data.toList) (hv : t = 2 → IsVal tv v.data.toList ∧ bytesOf bv 0 (cov (parts 4 tv)) = encV tv v.data.toList) :
    ∃ (m' : List UInt8) (res n : Nat) (T' : List (List UInt8)), go (prog (cov (parts 4 tk)) (cov (parts 4 tv)) sl).resolve 10000 0 (start (mem ++ bk ++ bv) t mem.length (mem.length + bk.length)) = ⟨m', res, (mapDo sl t k v L).1, n, 0⟩ ∧ m'.length = mem.length + bk.length + bv.length ∧ TabP tk tv sl (m'.take mem.length) (mapDo sl t k v L).2 T' ∧ (t = 4 → res = L.length) ∧
      ((t = 1 ∧ (mapDo sl t k v L).1 = 0) → ∃ i v0, atK L k = some i ∧ L[i]? = some (k, v0) ∧ tellAll (parts 4 tv) (m'.drop (mem.length + bk.length)) = v0.data.toList) ∧
      (m'.drop mem.length).take bk.length = bk ∧ (¬ (t = 1 ∧ (mapDo sl t k v L).1 = 0) → m'.drop (mem.length + bk.length) = bv) := by
  have hks := h.kk.sz32
  have hvs := h.kv.sz32
  have hlen := h.len
  have few := h.few
  generalize hR : mem.length = R at *
  have l2 : (mem ++ bk ++ bv).length = R + bk.length + bv.length := by simp [hR]; omega
  have g1 : ∀ x, x < R → (mem ++ bk ++ bv)[x]? = mem[x]? := fun x hx => by rw [List.append_assoc, List.getElem?_append_left (by omega)]
  have g2 : ∀ x, x < bk.length → (mem ++ bk ++ bv)[R + x]? = bk[x]? := fun x hx => by
    rw [List.append_assoc, List.getElem?_append_right (by omega), hR, Nat.add_sub_cancel_left, List.getElem?_append_left hx]
  have g3 : ∀ x, (mem ++ bk ++ bv)[R + bk.length + x]? = bv[x]? := fun x => by
    rw [List.getElem?_append_right (by simp; omega)]; congr 1; simp; omega
  obtain ⟨m, hm⟩ : ∃ m, mem ++ bk ++ bv = m := ⟨_, rfl⟩
  rw [hm] at l2 g1 g2 g3 ⊢
  have tabm : Tab ((cov (parts 4 tk)).length + (cov (parts 4 tv)).length) m T := h.tab.same (fun x hx => by
    have := Nat.mul_le_mul_right ((cov (parts 4 tk)).length + (cov (parts 4 tv)).length) few
    exact g1 x (by omega))
  have cx : Cx (cov (parts 4 tk)) (cov (parts 4 tv)) sl m R (R + bk.length) T := ⟨by have := h.kk.covl; omega, by have := h.kv.covl; omega, h.kk.pos, h.sl16, few, tabm, by omega, by omega, fun i hi => by have := h.kk.at32 hi; omega, fun i hi => by have := h.kv.at32 hi; omega, h.kv.vinj⟩
  have bK : bytesOf m R (cov (parts 4 tk)) = bytesOf bk 0 (cov (parts 4 tk)) := bytesOf_ext (fun p hp => by rw [Nat.zero_add]; exact g2 p (by have := (cov_bounds h.kk.inc p hp).2; omega))
  have bV : bytesOf m (R + bk.length) (cov (parts 4 tv)) = bytesOf bv 0 (cov (parts 4 tv)) := bytesOf_ext (fun p hp => by rw [Nat.zero_add]; exact g3 p)
  obtain ⟨m', res, T', hd, hl, hs', ht', hf', hc, hfound, hrest⟩ := shop_do2 (pg_of _ _ sl) cx h.sim (key := k) (value := v) t (fun ht => ⟨(hk ht).1, bK.trans (hk ht).2⟩) (fun ht => bV.trans (hv ht).2)
  obtain ⟨n, hgo⟩ := hd
  have hvals : ∀ p ∈ (mapDo sl t k v L).2, IsVal tv p.2.data.toList := by
    by_cases h2 : t = 2
    · exact mapDo_vals (ok := fun x => IsVal tv x.data.toList) sl t k v L (hv h2).1 h.vals
    · exact fun p hp => h.vals p (mapDo_sub h2 p hp)
  refine ⟨m', res, n, T', hgo, by omega, ⟨h.kk, h.kv, h.sl16, hs', hvals, ht'.same (fun x hx => ?_), hf', by rw [List.length_take, hl, l2]; omega⟩, hc, fun hf => ?_, ?_, fun hf => ?_⟩
  · have := Nat.mul_le_mul_right ((cov (parts 4 tk)).length + (cov (parts 4 tv)).length) hf'
    rw [List.getElem?_take, if_pos (by omega)]
  · obtain ⟨i, v0, q1, q2, q3, q4⟩ := hfound hf
    have hv0 := h.vals _ (List.mem_of_getElem? q2)
    refine ⟨i, v0, q1, q2, h.kv.told hv0 (by rw [List.length_drop]; omega) ?_⟩
    rw [← q3]
    refine bytesOf_ext (fun p hp => ?_)
    rw [Nat.zero_add, List.getElem?_drop]
  · apply List.ext_getElem?
    intro x
    rcases Nat.lt_or_ge x bk.length with hx | hx
    · rw [List.getElem?_take, if_pos hx, List.getElem?_drop, ← g2 x hx]
      by_cases hf : t = 1 ∧ (mapDo sl t k v L).1 = 0
      · obtain ⟨i, v0, q1, q2, q3, q4⟩ := hfound hf
        exact q4 (R + x) (fun j hj => by omega)
      · exact hrest hf (R + x) (by omega)
    · rw [List.getElem?_take, if_neg (by omega), List.getElem?_eq_none hx]
  · apply List.ext_getElem?
    intro x
    rw [List.getElem?_drop, hrest hf _ (by omega), g3]
end P
end Go.Proofs.YtghggcehloiemabGreatDoor
namespace Go.Proofs.YtghggcehloiemabGreatDoor
set_option linter.unusedVariables false
namespace P
/-- What the keeper's own map does: a key that is laid again goes to the end. -/
def mustDo (sl a : Nat) (k v : ByteArray) (L : List (ByteArray × ByteArray)) : Nat × List (ByteArray × ByteArray) :=
  if a = 1 then (if (atK L k).isSome then 0 else 1, L)
  else if a = 2 then (match atK L k with | some i => (0, L.eraseIdx i ++ [(k, v)]) | none => if L.length = sl then (2, L) else (0, L ++ [(k, v)]))
  else if a = 3 then (match atK L k with | some i => (0, L.eraseIdx i) | none => (1, L))
  else if a = 4 then (0, L) else if a = 5 then (0, []) else (3, L)
theorem set_perm {α : Type} : ∀ (L : List α) (i : Nat) (x : α), i < L.length → (L.set i x).Perm (x :: L.eraseIdx i)
  | [], i, x, h => by simp at h
  | a :: L, 0, x, h => by simp
  | a :: L, i + 1, x, h => by
    rw [List.set_cons_succ, List.eraseIdx_cons_succ]
    exact ((set_perm L i x (by simpa using h)).cons a).trans (List.Perm.swap x a _)
theorem must_map (sl a : Nat) (k v : ByteArray) (L : List (ByteArray × ByteArray)) (hl : L.length ≤ sl) : (mapDo sl a k v L).1 = (mustDo sl a k v L).1 ∧ (mapDo sl a k v L).2.Perm (mustDo sl a k v L).2 := by
  unfold mapDo mustDo
  by_cases h1 : a = 1
  · rw [if_pos h1, if_pos h1]; exact ⟨rfl, List.Perm.refl _⟩
  rw [if_neg h1, if_neg h1]
  by_cases h2 : a = 2
  · rw [if_pos h2, if_pos h2]
    cases hq : atK L k with
    | none =>
      simp only
      by_cases hf : L.length = sl
      · rw [if_pos (by omega), if_pos hf]; exact ⟨rfl, List.Perm.refl _⟩
      · rw [if_neg (by omega), if_neg hf]; exact ⟨rfl, List.Perm.refl _⟩
    | some i =>
      obtain ⟨v0, hi⟩ := atK_some hq
      have hlt := (List.getElem?_eq_some_iff.1 hi).1
      refine ⟨rfl, (set_perm L i _ hlt).trans ?_⟩
      exact (List.perm_append_singleton _ _).symm
  rw [if_neg h2, if_neg h2]
  by_cases h3 : a = 3
  · rw [if_pos h3, if_pos h3]
    cases hq : atK L k with
    | none => exact ⟨rfl, List.Perm.refl _⟩
    | some i => exact ⟨rfl, List.Perm.refl _⟩
  rw [if_neg h3, if_neg h3]
  exact ⟨rfl, List.Perm.refl _⟩
theorem TabP.perm {tk tv : Ty 4} {sl : Nat} {mem : List UInt8} {L L' : List (ByteArray × ByteArray)} {T : List (List UInt8)} (h : TabP tk tv sl mem L T) (hp : L.Perm L') : TabP tk tv sl mem L' T :=
  ⟨h.kk, h.kv, h.sl16, ⟨h.sim.perm.trans (hp.map _), (hp.map Prod.fst).nodup_iff.1 h.sim.nodup, fun p hq => h.sim.valid p (hp.symm.subset hq), h.sim.klen, h.sim.inj⟩, fun p hq => h.vals p (hp.symm.subset hq), h.tab, h.few, h.len⟩
theorem TabP.lens {tk tv : Ty 4} {sl : Nat} {mem : List UInt8} {L : List (ByteArray × ByteArray)} {T : List (List UInt8)} (h : TabP tk tv sl mem L T) : L.length ≤ sl := by
  have := h.sim.len; have := h.few; omega
/-- An empty table. -/
theorem tabP_empty {tk tv : Ty 4} {sl : Nat} {mem : List UInt8} (kk : Known tk) (kv : Known tv) (hs : sl ≤ 16) (h0 : mem[0]? = some 0) (hl : mem.length = 1 + sl * ((cov (parts 4 tk)).length + (cov (parts 4 tv)).length)) : TabP tk tv sl mem [] [] :=
  ⟨kk, kv, hs, ⟨by simp, by simp, fun p hp => by simp at hp, fun k hk => kk.encl hk, fun k k' h h' he => by
    have := kk.inj h h' he
    cases k; cases k'; simp only [ByteArray.mk.injEq]; exact Array.toList_inj.1 this⟩, fun p hp => by simp at hp, ⟨by rw [h0]; rfl, fun e t h => by simp at h⟩, by simp, hl⟩
end P
end Go.Proofs.YtghggcehloiemabGreatDoor
