import Derived.Test.YtghggcehloiemabGreatDoorPrGAll
namespace Go.Proofs.YtghggcehloiemabGreatDoor
set_option linter.unusedVariables false
namespace P
/-- What the run of a task answers. -/
def Did (c : List I) (mem : List UInt8) (a ka va : Nat) (mem' : List UInt8) (res st : Nat) : Prop := ∃ n, go c 10000 0 (start mem a ka va) = ⟨mem', res, st, n, 0⟩
theorem Did.of {c : List I} {N k : Nat} {mem : List UInt8} {a ka va : Nat} {r : List Nat} {mem' : List UInt8} {pc : Nat} (h : To c N (start mem a ka va) ⟨r, mem', pc⟩) (hx : c[pc]? = some ⟨0, 0, 0, k⟩) (hF : N < 10000) : Did c mem a ka va mem' (r[0]?.getD 0) k := h.ends hx 10000 hF
section tasks
variable {c : List I} {kp vp : List Nat} {sl : Nat} {mem : List UInt8} {ka va : Nat} {T : List (List UInt8)}
theorem Tab.same {sz : Nat} {mem mem' : List UInt8} {T : List (List UInt8)} (h : Tab sz mem T) (hs : ∀ x, x < 1 + T.length * sz → mem'[x]? = mem[x]?) : Tab sz mem' T := by
  refine ⟨by rw [hs 0 (by omega)]; exact h.count, fun e t ht => ⟨(h.ent e t ht).1, fun i hi => ?_⟩⟩
  have := ent_lt (List.getElem?_eq_some_iff.1 ht).1 hi
  rw [hs _ (by omega)]
  exact (h.ent e t ht).2 i hi
theorem run_none (hp : Pg c kp vp sl) (mem : List UInt8) (a ka va : Nat) (h1 : a ≠ 1) (h2 : a ≠ 2) (h3 : a ≠ 3) (h4 : a ≠ 4) (h5 : a ≠ 5) : Did c mem a ka va mem a 3 :=
  Did.of ((chosen hp mem ka va a).2.2.2.2.2 h1 h2 h3 h4 h5) hp.choose.tail.tail.tail.tail.tail.tail.tail.tail.tail.tail.head (by omega)
theorem run_count (hp : Pg c kp vp sl) (hT : T.length ≤ 16) {sz : Nat} (ht : Tab sz mem T) (ka va : Nat) : Did c mem 4 ka va mem T.length 0 := by
  have s := (chosen hp mem ka va 4).2.2.2.1 rfl
  have s1 := To.one hp.tell.head (by simp) (sp_load 0 15 0 (R 4 ka va 0 0 0 0 4 0 0) mem 11 (UInt8.ofNat T.length) ht.count)
  have hb : (UInt8.ofNat T.length).toNat = T.length := by simp only [UInt8.toNat_ofNat']; omega
  rw [hb] at s1
  exact Did.of (s.trans s1) hp.tell.tail.head (by omega)
theorem run_empty (hp : Pg c kp vp sl) (h0 : 0 < mem.length) (sz ka va : Nat) : ∃ mem', Did c mem 5 ka va mem' 5 0 ∧ mem'.length = mem.length ∧ Tab sz mem' [] ∧ ∀ x, 1 ≤ x → mem'[x]? = mem[x]? := by
  have s := (chosen hp mem ka va 5).2.2.2.2.1 rfl
  have s1 := To.one hp.empty.head (by simp) (sp_store 15 15 0 (R 5 ka va 0 0 0 0 5 0 0) mem 13 h0)
  refine ⟨_, Did.of (s.trans s1) hp.empty.tail.head (by omega), by simp, ⟨?_, fun e t h => by simp at h⟩, fun x hx => ?_⟩
  · show (mem.set (0 + 0) (UInt8.ofNat 0))[0]? = _
    rw [List.getElem?_set_self h0]; rfl
  · show (mem.set (0 + 0) (UInt8.ofNat 0))[x]? = _
    rw [List.getElem?_set_ne (by omega)]
theorem given (hp : Pg c kp vp sl) (m : List UInt8) (a n sz E F r7 r8 r9 : Nat) (hs : ∀ i, i < vp.length → E + (kp.length + i) < m.length) (hd : ∀ i, i < vp.length → va + at_ vp i < m.length) :
    ∃ v, To c (2 * vp.length) ⟨R a ka va n sz E F r7 r8 r9, m, 43 + 7 * kp.length + 4 * vp.length⟩ ⟨R a ka va n sz E F r7 v r9, cp (fun i => E + (kp.length + i)) (fun i => va + at_ vp i) m vp.length, 43 + 7 * kp.length + 6 * vp.length⟩ := by
  obtain ⟨v, h⟩ := moves hp.give1 (R a ka va n sz E F r7 r8 r9) rfl m (by decide) (by decide) hs hd
  exact ⟨v, h.to (by rw [show 43 + 7 * kp.length + 4 * vp.length + 2 * vp.length = 43 + 7 * kp.length + 6 * vp.length by omega]; rfl)⟩
theorem laid (hp : Pg c kp vp sl) (m : List UInt8) (a n sz E F r7 r8 r9 : Nat) (hd : ∀ i, i < vp.length → E + (kp.length + i) < m.length) (hs : ∀ i, i < vp.length → va + at_ vp i < m.length) :
    ∃ v, To c (2 * vp.length) ⟨R a ka va n sz E F r7 r8 r9, m, 42 + 7 * kp.length + 2 * vp.length⟩ ⟨R a ka va n sz E F r7 v r9, cp (fun i => va + at_ vp i) (fun i => E + (kp.length + i)) m vp.length, 42 + 7 * kp.length + 4 * vp.length⟩ := by
  obtain ⟨v, h⟩ := moves hp.lay1 (R a ka va n sz E F r7 r8 r9) rfl m (by decide) (by decide) hs hd
  exact ⟨v, h.to (by rw [show 42 + 7 * kp.length + 2 * vp.length + 2 * vp.length = 42 + 7 * kp.length + 4 * vp.length by omega]; rfl)⟩
theorem keyed (hp : Pg c kp vp sl) (m : List UInt8) (a n sz E F r7 r8 r9 : Nat) (hd : ∀ i, i < kp.length → E + i < m.length) (hs : ∀ i, i < kp.length → ka + at_ kp i < m.length) :
    ∃ v, To c (2 * kp.length) ⟨R a ka va n sz E F r7 r8 r9, m, 29 + 3 * kp.length⟩ ⟨R a ka va n sz E F r7 v r9, cp (fun i => ka + at_ kp i) (fun i => E + i) m kp.length, 29 + 5 * kp.length⟩ := by
  obtain ⟨v, h⟩ := moves hp.absent2 (R a ka va n sz E F r7 r8 r9) rfl m (by decide) (by decide) hs hd
  exact ⟨v, h.to (by rw [show 29 + 3 * kp.length + 2 * kp.length = 29 + 5 * kp.length by omega]; rfl)⟩
theorem moved (hp : Pg c kp vp sl) (m : List UInt8) (a n sz E F r7 r8 r9 : Nat) (hd : ∀ i, i < kp.length + vp.length → E + i < m.length) (hs : ∀ i, i < kp.length + vp.length → F + i < m.length) :
    ∃ v, To c (2 * (kp.length + vp.length)) ⟨R a ka va n sz E F r7 r8 r9, m, 38 + 5 * kp.length⟩ ⟨R a ka va n sz E F r7 v r9, cp (fun i => F + i) (fun i => E + i) m (kp.length + vp.length), 38 + 7 * kp.length + 2 * vp.length⟩ := by
  obtain ⟨v, h⟩ := moves hp.present2 (R a ka va n sz E F r7 r8 r9) rfl m (by decide) (by decide) hs hd
  exact ⟨v, h.to (by rw [show 38 + 5 * kp.length + 2 * (kp.length + vp.length) = 38 + 7 * kp.length + 2 * vp.length by omega]; rfl)⟩
/-- Behind a search that found the key. -/
theorem present_go (hp : Pg c kp vp sl) (m : List UInt8) (a n sz E F r7 r8 r9 : Nat) :
    (a = 1 → To c 4 ⟨R a ka va n sz E F r7 r8 r9, m, 33 + 5 * kp.length⟩ ⟨R a ka va n sz E F 1 r8 r9, m, 43 + 7 * kp.length + 4 * vp.length⟩) ∧
    (a = 2 → To c 4 ⟨R a ka va n sz E F r7 r8 r9, m, 33 + 5 * kp.length⟩ ⟨R a ka va n sz E F 2 r8 r9, m, 42 + 7 * kp.length + 2 * vp.length⟩) ∧
    (a = 3 → To c 4 ⟨R a ka va n sz E F r7 r8 r9, m, 33 + 5 * kp.length⟩ ⟨R a ka va n sz E F 2 r8 r9, m, 37 + 5 * kp.length⟩) := by
  have hc := hp.present1
  have c0 : c[33 + 5 * kp.length]? = some ⟨1, 7, 0, 1⟩ := hc.head
  have c1 : c[33 + 5 * kp.length + 1]? = some ⟨12, 0, 7, 43 + 7 * kp.length + 4 * vp.length⟩ := hc.tail.head
  have c2 : c[33 + 5 * kp.length + 1 + 1]? = some ⟨1, 7, 0, 2⟩ := hc.tail.tail.head
  have c3 : c[33 + 5 * kp.length + 1 + 1 + 1]? = some ⟨12, 0, 7, 42 + 7 * kp.length + 2 * vp.length⟩ := hc.tail.tail.tail.head
  have s0 := To.one c0 (by simp) (sp_num 7 0 1 (R a ka va n sz E F r7 r8 r9) m (33 + 5 * kp.length))
  have s2 := To.one c2 (by simp) (sp_num 7 0 2 (R a ka va n sz E F 1 r8 r9) m (33 + 5 * kp.length + 1 + 1))
  refine ⟨fun h => ?_, fun h => ?_, fun h => ?_⟩
  · have s1 := To.one c1 (by simp) (sp_same_y 0 7 (43 + 7 * kp.length + 4 * vp.length) (R a ka va n sz E F 1 r8 r9) m (33 + 5 * kp.length + 1) h)
    exact (s0.trans s1).mono (by omega)
  · have s1 := To.one c1 (by simp) (sp_same_n 0 7 (43 + 7 * kp.length + 4 * vp.length) (R a ka va n sz E F 1 r8 r9) m (33 + 5 * kp.length + 1) (show a ≠ 1 by omega))
    have s3 := To.one c3 (by simp) (sp_same_y 0 7 (42 + 7 * kp.length + 2 * vp.length) (R a ka va n sz E F 2 r8 r9) m (33 + 5 * kp.length + 1 + 1 + 1) h)
    exact ((s0.trans s1).trans s2).trans s3
  · have s1 := To.one c1 (by simp) (sp_same_n 0 7 (43 + 7 * kp.length + 4 * vp.length) (R a ka va n sz E F 1 r8 r9) m (33 + 5 * kp.length + 1) (show a ≠ 1 by omega))
    have s3 := To.one c3 (by simp) (sp_same_n 0 7 (42 + 7 * kp.length + 2 * vp.length) (R a ka va n sz E F 2 r8 r9) m (33 + 5 * kp.length + 1 + 1 + 1) (show a ≠ 2 by omega))
    exact (((s0.trans s1).trans s2).trans s3).to (by rw [show 37 + 5 * kp.length = 33 + 5 * kp.length + 1 + 1 + 1 + 1 by omega])
/-- Behind a search that did not. -/
theorem absent_go (hp : Pg c kp vp sl) (m : List UInt8) (a n sz E F r7 r8 r9 : Nat) :
    (a ≠ 2 → To c 4 ⟨R a ka va n sz E F r7 r8 r9, m, 25 + 3 * kp.length⟩ ⟨R a ka va n sz E F 2 r8 r9, m, 44 + 7 * kp.length + 6 * vp.length⟩) ∧
    (a = 2 → n = sl → To c 4 ⟨R a ka va n sz E F r7 r8 r9, m, 25 + 3 * kp.length⟩ ⟨R a ka va n sz E F sl r8 r9, m, 45 + 7 * kp.length + 6 * vp.length⟩) ∧
    (a = 2 → n ≠ sl → To c 4 ⟨R a ka va n sz E F r7 r8 r9, m, 25 + 3 * kp.length⟩ ⟨R a ka va n sz E F sl r8 r9, m, 29 + 3 * kp.length⟩) := by
  have hc := hp.absent1
  have c0 : c[25 + 3 * kp.length]? = some ⟨1, 7, 0, 2⟩ := hc.head
  have c1 : c[25 + 3 * kp.length + 1]? = some ⟨13, 0, 7, 44 + 7 * kp.length + 6 * vp.length⟩ := hc.tail.head
  have c2 : c[25 + 3 * kp.length + 1 + 1]? = some ⟨1, 7, 0, sl⟩ := hc.tail.tail.head
  have c3 : c[25 + 3 * kp.length + 1 + 1 + 1]? = some ⟨12, 3, 7, 45 + 7 * kp.length + 6 * vp.length⟩ := hc.tail.tail.tail.head
  have s0 := To.one c0 (by simp) (sp_num 7 0 2 (R a ka va n sz E F r7 r8 r9) m (25 + 3 * kp.length))
  have s2 := To.one c2 (by simp) (sp_num 7 0 sl (R a ka va n sz E F 2 r8 r9) m (25 + 3 * kp.length + 1 + 1))
  refine ⟨fun h => ?_, fun h h' => ?_, fun h h' => ?_⟩
  · have s1 := To.one c1 (by simp) (sp_not_y 0 7 (44 + 7 * kp.length + 6 * vp.length) (R a ka va n sz E F 2 r8 r9) m (25 + 3 * kp.length + 1) h)
    exact (s0.trans s1).mono (by omega)
  · have s1 := To.one c1 (by simp) (sp_not_n 0 7 (44 + 7 * kp.length + 6 * vp.length) (R a ka va n sz E F 2 r8 r9) m (25 + 3 * kp.length + 1) h)
    have s3 := To.one c3 (by simp) (sp_same_y 3 7 (45 + 7 * kp.length + 6 * vp.length) (R a ka va n sz E F sl r8 r9) m (25 + 3 * kp.length + 1 + 1 + 1) h')
    exact ((s0.trans s1).trans s2).trans s3
  · have s1 := To.one c1 (by simp) (sp_not_n 0 7 (44 + 7 * kp.length + 6 * vp.length) (R a ka va n sz E F 2 r8 r9) m (25 + 3 * kp.length + 1) h)
    have s3 := To.one c3 (by simp) (sp_same_n 3 7 (45 + 7 * kp.length + 6 * vp.length) (R a ka va n sz E F sl r8 r9) m (25 + 3 * kp.length + 1 + 1 + 1) h')
    exact (((s0.trans s1).trans s2).trans s3).to (by rw [show 29 + 3 * kp.length = 25 + 3 * kp.length + 1 + 1 + 1 + 1 by omega])
/-- The bytes of an entry are in the memory. -/
theorem Cx.inb (hx : Cx kp vp sl mem ka va T) {e i : Nat} (he : e < sl) (hi : i < kp.length + vp.length) : 1 + e * (kp.length + vp.length) + i < 1 + sl * (kp.length + vp.length) ∧ 1 + e * (kp.length + vp.length) + i < mem.length := by
  have := ent_lt he hi
  have := hx.room
  omega
theorem run_find (hp : Pg c kp vp sl) (hx : Cx kp vp sl mem ka va T) :
    (∃ (e : Nat) (t mem' : List UInt8), T[e]? = some t ∧ t.take kp.length = bytesOf mem ka kp ∧ Did c mem 1 ka va mem' 1 0 ∧ mem'.length = mem.length ∧ (∀ x, (∀ i, i < vp.length → va + at_ vp i ≠ x) → mem'[x]? = mem[x]?) ∧ ∀ i, i < vp.length → mem'[va + at_ vp i]? = t[kp.length + i]?) ∨
    ((∀ (e : Nat) (t : List UInt8), T[e]? = some t → t.take kp.length ≠ bytesOf mem ka kp) ∧ Did c mem 1 ka va mem 1 1) := by
  have s0 := (chosen hp mem ka va 1).1 rfl
  have hkl := hx.kl
  have hvl := hx.vl
  rcases searched hp hx 1 1 with ⟨e, t, r8, r9, hT, hK, s1⟩ | ⟨hno, r8, r9, s1⟩
  · have he : e < sl := Nat.lt_of_lt_of_le (List.getElem?_eq_some_iff.1 hT).1 hx.few
    have s2 := (present_go hp mem 1 T.length (kp.length + vp.length) (1 + e * (kp.length + vp.length)) (1 + T.length * (kp.length + vp.length)) 1 r8 r9 (ka := ka) (va := va)).1 rfl
    obtain ⟨v, s3⟩ := given (ka := ka) hp mem 1 T.length (kp.length + vp.length) (1 + e * (kp.length + vp.length)) (1 + T.length * (kp.length + vp.length)) 1 r8 r9 (fun i hi => (hx.inb he (show kp.length + i < kp.length + vp.length by omega)).2) hx.vin
    refine .inl ⟨e, t, _, hT, hK, Did.of (((s0.trans s1).trans s2).trans s3) hp.give2.head (by omega), cp_len _ _ _ _, fun x h => cp_other _ _ _ _ _ h, fun i hi => ?_⟩
    have hva := hx.hva
    rw [cp_at (fun i => 1 + e * (kp.length + vp.length) + (kp.length + i)) (fun i => va + at_ vp i) mem vp.length (fun i j h1 h2 h3 => hx.vinj i j h1 h2 (by omega)) (fun i j h1 h2 h3 => by
      have := (hx.inb he (show kp.length + j < kp.length + vp.length by omega)).1
      omega) (fun i hi => ⟨(hx.inb he (show kp.length + i < kp.length + vp.length by omega)).2, hx.vin i hi⟩) i hi]
    exact (hx.tab.ent e t hT).2 (kp.length + i) (by omega)
  · have s2 := (absent_go hp mem 1 T.length (kp.length + vp.length) (1 + T.length * (kp.length + vp.length)) (1 + T.length * (kp.length + vp.length)) 1 r8 r9 (ka := ka) (va := va)).1 (by decide)
    exact .inr ⟨hno, Did.of ((s0.trans s1).trans s2) hp.none_.head (by omega)⟩
theorem tab_lay (hx : Cx kp vp sl mem ka va T) {e : Nat} {t : List UInt8} (hT : T[e]? = some t) (hK : t.take kp.length = bytesOf mem ka kp) :
    Tab (kp.length + vp.length) (cp (fun i => va + at_ vp i) (fun i => 1 + e * (kp.length + vp.length) + (kp.length + i)) mem vp.length) (T.set e (bytesOf mem ka kp ++ bytesOf mem va vp)) := by
  have hlt := (List.getElem?_eq_some_iff.1 hT).1
  have he : e < sl := Nat.lt_of_lt_of_le hlt hx.few
  have hva := hx.hva
  refine ⟨?_, fun e' t' ht' => ?_⟩
  · rw [cp_other _ _ _ _ _ (fun i hi => by omega), List.length_set]
    exact hx.tab.count
  · by_cases hee : e = e'
    · subst hee
      rw [List.getElem?_set_self hlt] at ht'
      cases ht'
      refine ⟨by simp [bytesOf_len], fun i hi => ?_⟩
      rcases Nat.lt_or_ge i kp.length with hik | hik
      · rw [cp_other _ _ _ _ _ (fun j hj => by omega), List.getElem?_append_left (by rw [bytesOf_len]; exact hik), (hx.tab.ent e t hT).2 i hi, (take_iff (bytesOf_len _ _ _)).1 hK i hik]
      · obtain ⟨j, rfl⟩ : ∃ j, i = kp.length + j := ⟨i - kp.length, by omega⟩
        rw [cp_at (fun i => va + at_ vp i) (fun i => 1 + e * (kp.length + vp.length) + (kp.length + i)) mem vp.length (fun i j h1 h2 h3 => by omega) (fun i j h1 h2 h3 => by
          have := (hx.inb he (show kp.length + i < kp.length + vp.length by omega)).1
          omega) (fun i hi => ⟨hx.vin i hi, (hx.inb he (show kp.length + i < kp.length + vp.length by omega)).2⟩) j (by omega)]
        rw [List.getElem?_append_right (by rw [bytesOf_len]; omega), bytesOf_len, show kp.length + j - kp.length = j by omega, bytesOf_get _ _ _ _ (by omega) (hx.vin j (by omega))]
    · rw [List.getElem?_set_ne hee] at ht'
      refine ⟨(hx.tab.ent e' t' ht').1, fun i hi => ?_⟩
      rw [cp_other _ _ _ _ _ (fun j hj => by
        have := ent_ne (sz := kp.length + vp.length) hee (show kp.length + j < kp.length + vp.length by omega) hi
        omega)]
      exact (hx.tab.ent e' t' ht').2 i hi
theorem tab_new (hx : Cx kp vp sl mem ka va T) (hn : T.length < sl) (m1 m2 m3 : List UInt8)
    (h1 : m1 = cp (fun i => ka + at_ kp i) (fun i => 1 + T.length * (kp.length + vp.length) + i) mem kp.length) (h2 : m2 = m1.set 0 (UInt8.ofNat (T.length + 1)))
    (h3 : m3 = cp (fun i => va + at_ vp i) (fun i => 1 + T.length * (kp.length + vp.length) + (kp.length + i)) m2 vp.length) :
    m3.length = mem.length ∧ Tab (kp.length + vp.length) m3 (T ++ [bytesOf mem ka kp ++ bytesOf mem va vp]) ∧ ∀ x, 1 + sl * (kp.length + vp.length) ≤ x → m3[x]? = mem[x]? := by
  have hka := hx.hka
  have hva := hx.hva
  have l1 : m1.length = mem.length := by rw [h1, cp_len]
  have l2 : m2.length = mem.length := by rw [h2, List.length_set, l1]
  have l3 : m3.length = mem.length := by rw [h3, cp_len, l2]
  have hroom := hx.room
  have far : ∀ x, 1 + sl * (kp.length + vp.length) ≤ x → m2[x]? = mem[x]? := fun x hxx => by
    rw [h2, List.getElem?_set_ne (by omega), h1, cp_other _ _ _ _ _ (fun i hi => by have := (hx.inb hn (show i < kp.length + vp.length by omega)).1; omega)]
  refine ⟨l3, ⟨?_, fun e' t' ht' => ?_⟩, fun x hxx => ?_⟩
  · rw [h3, cp_other _ _ _ _ _ (fun i hi => by omega), h2, List.getElem?_set_self (by omega)]
    simp
  · rcases Nat.lt_or_ge e' T.length with hlt | hge
    · rw [List.getElem?_append_left hlt] at ht'
      refine ⟨(hx.tab.ent e' t' ht').1, fun i hi => ?_⟩
      have hne := fun j (hj : j < kp.length + vp.length) => ent_ne (sz := kp.length + vp.length) (show T.length ≠ e' by omega) hj hi
      rw [h3, cp_other _ _ _ _ _ (fun j hj => by have := hne (kp.length + j) (by omega); omega), h2, List.getElem?_set_ne (by omega), h1, cp_other _ _ _ _ _ (fun j hj => by have := hne j (by omega); omega)]
      exact (hx.tab.ent e' t' ht').2 i hi
    · have hl := (List.getElem?_eq_some_iff.1 ht').1
      simp only [List.length_append, List.length_cons, List.length_nil] at hl
      have : e' = T.length := by omega
      subst this
      rw [List.getElem?_append_right (Nat.le_refl _), Nat.sub_self] at ht'
      simp only [List.getElem?_cons_zero, Option.some.injEq] at ht'
      subst ht'
      refine ⟨by simp [bytesOf_len], fun i hi => ?_⟩
      rcases Nat.lt_or_ge i kp.length with hik | hik
      · rw [List.getElem?_append_left (by rw [bytesOf_len]; exact hik), bytesOf_get _ _ _ _ hik (hx.kin i hik), h3, cp_other _ _ _ _ _ (fun j hj => by omega), h2, List.getElem?_set_ne (by omega), h1]
        exact cp_at (fun i => ka + at_ kp i) (fun i => 1 + T.length * (kp.length + vp.length) + i) mem kp.length (fun i j h1 h2 h3 => by omega) (fun i j h1 h2 h3 => by
          have := (hx.inb hn (show i < kp.length + vp.length by omega)).1
          omega) (fun i hi => ⟨hx.kin i hi, (hx.inb hn (show i < kp.length + vp.length by omega)).2⟩) i hik
      · obtain ⟨j, rfl⟩ : ∃ j, i = kp.length + j := ⟨i - kp.length, by omega⟩
        rw [h3, cp_at (fun i => va + at_ vp i) (fun i => 1 + T.length * (kp.length + vp.length) + (kp.length + i)) m2 vp.length (fun i j h1 h2 h3 => by omega) (fun i j h1 h2 h3 => by
          have := (hx.inb hn (show kp.length + i < kp.length + vp.length by omega)).1
          omega) (fun i hi => ⟨by rw [l2]; exact hx.vin i hi, by rw [l2]; exact (hx.inb hn (show kp.length + i < kp.length + vp.length by omega)).2⟩) j (by omega)]
        rw [List.getElem?_append_right (by rw [bytesOf_len]; omega), bytesOf_len, show kp.length + j - kp.length = j by omega, bytesOf_get _ _ _ _ (by omega) (hx.vin j (by omega))]
        exact far _ (by omega)
  · rw [h3, cp_other _ _ _ _ _ (fun i hi => by have := (hx.inb hn (show kp.length + i < kp.length + vp.length by omega)).1; omega)]
    exact far x hxx
theorem run_lay (hp : Pg c kp vp sl) (hx : Cx kp vp sl mem ka va T) :
    (∃ (e : Nat) (t mem' : List UInt8), T[e]? = some t ∧ t.take kp.length = bytesOf mem ka kp ∧ Did c mem 2 ka va mem' 2 0 ∧ mem'.length = mem.length ∧ Tab (kp.length + vp.length) mem' (T.set e (bytesOf mem ka kp ++ bytesOf mem va vp)) ∧ ∀ x, 1 + sl * (kp.length + vp.length) ≤ x → mem'[x]? = mem[x]?) ∨
    ((∀ (e : Nat) (t : List UInt8), T[e]? = some t → t.take kp.length ≠ bytesOf mem ka kp) ∧ T.length = sl ∧ Did c mem 2 ka va mem 2 2) ∨
    ((∀ (e : Nat) (t : List UInt8), T[e]? = some t → t.take kp.length ≠ bytesOf mem ka kp) ∧ T.length < sl ∧ ∃ mem' : List UInt8, Did c mem 2 ka va mem' 2 0 ∧ mem'.length = mem.length ∧ Tab (kp.length + vp.length) mem' (T ++ [bytesOf mem ka kp ++ bytesOf mem va vp]) ∧ ∀ x, 1 + sl * (kp.length + vp.length) ≤ x → mem'[x]? = mem[x]?) := by
  have s0 := (chosen hp mem ka va 2).2.1 rfl
  have hkl := hx.kl
  have hvl := hx.vl
  have hsl := hx.hsl
  have hfew := hx.few
  rcases searched hp hx 2 2 with ⟨e, t, r8, r9, hT, hK, s1⟩ | ⟨hno, r8, r9, s1⟩
  · have he : e < sl := Nat.lt_of_lt_of_le (List.getElem?_eq_some_iff.1 hT).1 hx.few
    have s2 := (present_go hp mem 2 T.length (kp.length + vp.length) (1 + e * (kp.length + vp.length)) (1 + T.length * (kp.length + vp.length)) 2 r8 r9 (ka := ka) (va := va)).2.1 rfl
    obtain ⟨v, s3⟩ := laid (ka := ka) hp mem 2 T.length (kp.length + vp.length) (1 + e * (kp.length + vp.length)) (1 + T.length * (kp.length + vp.length)) 2 r8 r9 (fun i hi => (hx.inb he (show kp.length + i < kp.length + vp.length by omega)).2) hx.vin
    refine .inl ⟨e, t, _, hT, hK, Did.of (((s0.trans s1).trans s2).trans s3) hp.lay2.head (by omega), cp_len _ _ _ _, tab_lay hx hT hK, fun x h => cp_other _ _ _ _ _ (fun i hi => ?_)⟩
    have := (hx.inb he (show kp.length + i < kp.length + vp.length by omega)).1
    omega
  · have sg := absent_go hp mem 2 T.length (kp.length + vp.length) (1 + T.length * (kp.length + vp.length)) (1 + T.length * (kp.length + vp.length)) 2 r8 r9 (ka := ka) (va := va)
    by_cases hn : T.length = sl
    · exact .inr (.inl ⟨hno, hn, Did.of ((s0.trans s1).trans (sg.2.1 rfl hn)) hp.full.head (by omega)⟩)
    · have hn' : T.length < sl := by omega
      have s2 := sg.2.2 rfl hn
      obtain ⟨v, s3⟩ := keyed (va := va) hp mem 2 T.length (kp.length + vp.length) (1 + T.length * (kp.length + vp.length)) (1 + T.length * (kp.length + vp.length)) sl r8 r9 (fun i hi => (hx.inb hn' (show i < kp.length + vp.length by omega)).2) hx.kin
      obtain ⟨m1, h1⟩ : ∃ m1, m1 = cp (fun i => ka + at_ kp i) (fun i => 1 + T.length * (kp.length + vp.length) + i) mem kp.length := ⟨_, rfl⟩
      have l1 : m1.length = mem.length := by rw [h1, cp_len]
      have hroom := hx.room
      rw [← h1] at s3
      have s4 := To.one hp.absent3.head (by simp) (sp_num 7 0 1 (R 2 ka va T.length (kp.length + vp.length) (1 + T.length * (kp.length + vp.length)) (1 + T.length * (kp.length + vp.length)) sl v r9) m1 (29 + 5 * kp.length))
      have s5 := To.one hp.absent3.tail.head (by simp) (sp_add 3 7 0 (R 2 ka va T.length (kp.length + vp.length) (1 + T.length * (kp.length + vp.length)) (1 + T.length * (kp.length + vp.length)) 1 v r9) m1 (29 + 5 * kp.length + 1) (show T.length + 1 < 100000 by omega))
      have s6 := To.one hp.absent3.tail.tail.head (by simp) (sp_store 3 15 0 (R 2 ka va (T.length + 1) (kp.length + vp.length) (1 + T.length * (kp.length + vp.length)) (1 + T.length * (kp.length + vp.length)) 1 v r9) m1 (29 + 5 * kp.length + 1 + 1) (show 0 + 0 < m1.length by omega))
      obtain ⟨m2, h2⟩ : ∃ m2, m2 = m1.set 0 (UInt8.ofNat (T.length + 1)) := ⟨_, rfl⟩
      have s6' := s6.to (show (⟨R 2 ka va (T.length + 1) (kp.length + vp.length) (1 + T.length * (kp.length + vp.length)) (1 + T.length * (kp.length + vp.length)) 1 v r9, m1.set 0 (UInt8.ofNat (T.length + 1)), 29 + 5 * kp.length + 1 + 1 + 1⟩ : M) = ⟨R 2 ka va (T.length + 1) (kp.length + vp.length) (1 + T.length * (kp.length + vp.length)) (1 + T.length * (kp.length + vp.length)) 1 v r9, m2, 29 + 5 * kp.length + 1 + 1 + 1⟩ by rw [h2])
      have s7 := To.one hp.absent3.tail.tail.tail.head (by simp) (sp_go 0 0 (42 + 7 * kp.length + 2 * vp.length) (R 2 ka va (T.length + 1) (kp.length + vp.length) (1 + T.length * (kp.length + vp.length)) (1 + T.length * (kp.length + vp.length)) 1 v r9) m2 (29 + 5 * kp.length + 1 + 1 + 1))
      have l2 : m2.length = mem.length := by rw [h2, List.length_set, l1]
      obtain ⟨v', s8⟩ := laid (ka := ka) (va := va) hp m2 2 (T.length + 1) (kp.length + vp.length) (1 + T.length * (kp.length + vp.length)) (1 + T.length * (kp.length + vp.length)) 1 v r9 (fun i hi => by rw [l2]; exact (hx.inb hn' (show kp.length + i < kp.length + vp.length by omega)).2) (fun i hi => by rw [l2]; exact hx.vin i hi)
      obtain ⟨g1, g2, g3⟩ := tab_new hx hn' m1 m2 _ h1 h2 rfl
      exact .inr (.inr ⟨hno, hn', _, Did.of ((((((((s0.trans s1).trans s2).trans s3).trans s4).trans s5).trans s6').trans s7).trans s8) hp.lay2.head (by omega), g1, g2, g3⟩)
theorem tab_take (hx : Cx kp vp sl mem ka va T) {e : Nat} {t l : List UInt8} (hT : T[e]? = some t) (hl : T[T.length - 1]? = some l) (m1 m2 : List UInt8)
    (h1 : m1 = cp (fun i => 1 + (T.length - 1) * (kp.length + vp.length) + i) (fun i => 1 + e * (kp.length + vp.length) + i) mem (kp.length + vp.length)) (h2 : m2 = m1.set 0 (UInt8.ofNat (T.length - 1))) :
    m2.length = mem.length ∧ Tab (kp.length + vp.length) m2 ((T.set e l).take (T.length - 1)) ∧ ∀ x, 1 + sl * (kp.length + vp.length) ≤ x → m2[x]? = mem[x]? := by
  have hlt := (List.getElem?_eq_some_iff.1 hT).1
  have he : e < sl := Nat.lt_of_lt_of_le hlt hx.few
  have hls : T.length - 1 < sl := by have := hx.few; omega
  have l1 : m1.length = mem.length := by rw [h1, cp_len]
  have l2 : m2.length = mem.length := by rw [h2, List.length_set, l1]
  have hroom := hx.room
  refine ⟨l2, ⟨?_, fun e' t' ht' => ?_⟩, fun x hxx => ?_⟩
  · rw [h2, List.getElem?_set_self (by omega), List.length_take, List.length_set, Nat.min_eq_left (by omega)]
  · have hl' : e' < T.length - 1 := by
      have := (List.getElem?_eq_some_iff.1 ht').1
      rw [List.length_take, List.length_set] at this; omega
    rw [List.getElem?_take, if_pos hl'] at ht'
    by_cases hee : e = e'
    · subst hee
      rw [List.getElem?_set_self hlt] at ht'
      cases ht'
      refine ⟨(hx.tab.ent _ _ hl).1, fun i hi => ?_⟩
      rw [h2, List.getElem?_set_ne (by omega), h1]
      rw [cp_at (fun i => 1 + (T.length - 1) * (kp.length + vp.length) + i) (fun i => 1 + e * (kp.length + vp.length) + i) mem (kp.length + vp.length) (fun i j h1 h2 h3 => by omega) (fun i j h1 h2 h3 => by
        have := ent_ne (sz := kp.length + vp.length) (show e ≠ T.length - 1 by omega) (show i < _ by omega) h2
        omega) (fun i hi => ⟨(hx.inb hls hi).2, (hx.inb he hi).2⟩) i hi]
      exact (hx.tab.ent _ _ hl).2 i hi
    · rw [List.getElem?_set_ne hee] at ht'
      refine ⟨(hx.tab.ent e' t' ht').1, fun i hi => ?_⟩
      rw [h2, List.getElem?_set_ne (by omega), h1, cp_other _ _ _ _ _ (fun j hj => by
        have := ent_ne (sz := kp.length + vp.length) hee hj hi
        omega)]
      exact (hx.tab.ent e' t' ht').2 i hi
  · rw [h2, List.getElem?_set_ne (by omega), h1, cp_other _ _ _ _ _ (fun i hi => by have := (hx.inb he hi).1; omega)]
theorem run_take (hp : Pg c kp vp sl) (hx : Cx kp vp sl mem ka va T) :
    (∃ (e : Nat) (t l mem' : List UInt8), T[e]? = some t ∧ t.take kp.length = bytesOf mem ka kp ∧ T[T.length - 1]? = some l ∧ Did c mem 3 ka va mem' 3 0 ∧ mem'.length = mem.length ∧ Tab (kp.length + vp.length) mem' ((T.set e l).take (T.length - 1)) ∧ ∀ x, 1 + sl * (kp.length + vp.length) ≤ x → mem'[x]? = mem[x]?) ∨
    ((∀ (e : Nat) (t : List UInt8), T[e]? = some t → t.take kp.length ≠ bytesOf mem ka kp) ∧ Did c mem 3 ka va mem 3 1) := by
  have s0 := (chosen hp mem ka va 3).2.2.1 rfl
  have hkl := hx.kl
  have hvl := hx.vl
  have hsl := hx.hsl
  have hfew := hx.few
  rcases searched hp hx 3 3 with ⟨e, t, r8, r9, hT, hK, s1⟩ | ⟨hno, r8, r9, s1⟩
  · have hlt := (List.getElem?_eq_some_iff.1 hT).1
    have he : e < sl := Nat.lt_of_lt_of_le hlt hx.few
    have hls : T.length - 1 < sl := by omega
    obtain ⟨l, hl⟩ : ∃ l, T[T.length - 1]? = some l := ⟨_, List.getElem?_eq_getElem (by omega)⟩
    have s2 := (present_go hp mem 3 T.length (kp.length + vp.length) (1 + e * (kp.length + vp.length)) (1 + T.length * (kp.length + vp.length)) 3 r8 r9 (ka := ka) (va := va)).2.2 rfl
    have hb := hx.small (n := T.length) hx.few
    have hge : kp.length + vp.length ≤ 1 + T.length * (kp.length + vp.length) := by
      have := Nat.mul_le_mul_right (kp.length + vp.length) (show 1 ≤ T.length by omega)
      omega
    have hF : 1 + T.length * (kp.length + vp.length) - (kp.length + vp.length) = 1 + (T.length - 1) * (kp.length + vp.length) := by
      rw [Nat.sub_mul]; have := Nat.mul_le_mul_right (kp.length + vp.length) (show 1 ≤ T.length by omega); omega
    have c4 : c[37 + 5 * kp.length]? = some ⟨4, 6, 4, 0⟩ := by
      have := hp.present1.tail.tail.tail.tail.head
      rw [show 37 + 5 * kp.length = 33 + 5 * kp.length + 1 + 1 + 1 + 1 by omega]; exact this
    have s3 := To.one c4 (by simp) (sp_sub 6 4 0 (R 3 ka va T.length (kp.length + vp.length) (1 + e * (kp.length + vp.length)) (1 + T.length * (kp.length + vp.length)) 2 r8 r9) mem (37 + 5 * kp.length) (show 1 + T.length * (kp.length + vp.length) < 100000 by omega) hge)
    have s3' := s3.to (show (⟨R 3 ka va T.length (kp.length + vp.length) (1 + e * (kp.length + vp.length)) (1 + T.length * (kp.length + vp.length) - (kp.length + vp.length)) 2 r8 r9, mem, 37 + 5 * kp.length + 1⟩ : M) = ⟨R 3 ka va T.length (kp.length + vp.length) (1 + e * (kp.length + vp.length)) (1 + (T.length - 1) * (kp.length + vp.length)) 2 r8 r9, mem, 38 + 5 * kp.length⟩ by rw [hF, show 37 + 5 * kp.length + 1 = 38 + 5 * kp.length by omega])
    obtain ⟨v, s4⟩ := moved (ka := ka) (va := va) hp mem 3 T.length (kp.length + vp.length) (1 + e * (kp.length + vp.length)) (1 + (T.length - 1) * (kp.length + vp.length)) 2 r8 r9 (fun i hi => (hx.inb he hi).2) (fun i hi => (hx.inb hls hi).2)
    obtain ⟨m1, h1⟩ : ∃ m1, m1 = cp (fun i => 1 + (T.length - 1) * (kp.length + vp.length) + i) (fun i => 1 + e * (kp.length + vp.length) + i) mem (kp.length + vp.length) := ⟨_, rfl⟩
    rw [← h1] at s4
    have l1 : m1.length = mem.length := by rw [h1, cp_len]
    have hroom := hx.room
    have s5 := To.one hp.present3.head (by simp) (sp_num 7 0 1 (R 3 ka va T.length (kp.length + vp.length) (1 + e * (kp.length + vp.length)) (1 + (T.length - 1) * (kp.length + vp.length)) 2 v r9) m1 (38 + 7 * kp.length + 2 * vp.length))
    have s6 := To.one hp.present3.tail.head (by simp) (sp_sub 3 7 0 (R 3 ka va T.length (kp.length + vp.length) (1 + e * (kp.length + vp.length)) (1 + (T.length - 1) * (kp.length + vp.length)) 1 v r9) m1 (38 + 7 * kp.length + 2 * vp.length + 1) (show T.length < 100000 by omega) (show 1 ≤ T.length by omega))
    have s7 := To.one hp.present3.tail.tail.head (by simp) (sp_store 3 15 0 (R 3 ka va (T.length - 1) (kp.length + vp.length) (1 + e * (kp.length + vp.length)) (1 + (T.length - 1) * (kp.length + vp.length)) 1 v r9) m1 (38 + 7 * kp.length + 2 * vp.length + 1 + 1) (show 0 + 0 < m1.length by omega))
    obtain ⟨g1, g2, g3⟩ := tab_take hx hT hl m1 _ h1 rfl
    exact .inl ⟨e, t, l, _, hT, hK, hl, Did.of (((((((s0.trans s1).trans s2).trans s3').trans s4).trans s5).trans s6).trans s7) hp.present3.tail.tail.tail.head (by omega), g1, g2, g3⟩
  · have s2 := (absent_go hp mem 3 T.length (kp.length + vp.length) (1 + T.length * (kp.length + vp.length)) (1 + T.length * (kp.length + vp.length)) 3 r8 r9 (ka := ka) (va := va)).1 (by decide)
    exact .inr ⟨hno, Did.of ((s0.trans s1).trans s2) hp.none_.head (by omega)⟩
end tasks
end P
end Go.Proofs.YtghggcehloiemabGreatDoor
namespace Go.Proofs.YtghggcehloiemabGreatDoor
set_option linter.unusedVariables false
namespace P
theorem perm_erase {α : Type} : ∀ (a : List α) (e : Nat) (t : α), a[e]? = some t → a.Perm (t :: a.eraseIdx e)
  | [], e, t, h => by simp at h
  | x :: a, 0, t, h => by simp at h; subst h; exact List.Perm.refl _
  | x :: a, e + 1, t, h => by
    simp at h
    exact ((perm_erase a e t h).cons x).trans (List.Perm.swap t x _)
theorem perm_set {α : Type} : ∀ (a : List α) (e : Nat) (x : α), e < a.length → (a.set e x).Perm (x :: a.eraseIdx e)
  | [], e, x, h => by simp at h
  | y :: a, 0, x, h => List.Perm.refl _
  | y :: a, e + 1, x, h => ((perm_set a e x (by simpa using h)).cons y).trans (List.Perm.swap x y _)
theorem perm_both {α : Type} {a b : List α} {e i : Nat} {t : α} (h : a.Perm b) (ha : a[e]? = some t) (hb : b[i]? = some t) : (a.eraseIdx e).Perm (b.eraseIdx i) :=
  List.Perm.cons_inv (((perm_erase a e t ha).symm.trans h).trans (perm_erase b i t hb))
theorem perm_take {α : Type} {a : List α} {e : Nat} {l : α} (he : e < a.length) (hl : a[a.length - 1]? = some l) : ((a.set e l).take (a.length - 1)).Perm (a.eraseIdx e) := by
  have h1 : ((a.set e l).take (a.length - 1)) = (a.set e l).dropLast := by rw [List.dropLast_eq_take, List.length_set]
  have hlen : 0 < a.length := by omega
  have hne : a.set e l ≠ [] := by intro h; have := congrArg List.length h; simp at this; rw [this] at hlen; simp at hlen
  have hlast : (a.set e l)[(a.set e l).length - 1]? = some l := by
    rw [List.length_set]
    by_cases h : e = a.length - 1
    · subst h; rw [List.getElem?_set_self (by omega)]
    · rw [List.getElem?_set_ne h]; exact hl
  have h2 : (a.set e l).dropLast ++ [l] = a.set e l := by
    have := List.dropLast_concat_getLast hne
    rw [List.getLast_eq_getElem] at this
    have h3 : (a.set e l)[(a.set e l).length - 1]'(by rw [List.length_set]; omega) = l := by
      have := hlast; rw [List.getElem?_eq_getElem (by rw [List.length_set]; omega)] at this; exact Option.some.inj this
    rw [h3] at this
    exact this
  rw [h1]
  refine List.Perm.cons_inv (a := l) ?_
  have h4 : (l :: (a.set e l).dropLast).Perm (a.set e l) := by
    have : (l :: (a.set e l).dropLast).Perm ((a.set e l).dropLast ++ [l]) := List.perm_append_singleton _ _ |>.symm
    rw [h2] at this; exact this
  exact h4.trans (perm_set a e l he)
theorem map_erase {α β : Type} (f : α → β) : ∀ (l : List α) (i : Nat), (l.eraseIdx i).map f = (l.map f).eraseIdx i
  | [], i => rfl
  | x :: l, 0 => rfl
  | x :: l, i + 1 => by simp [map_erase f l i]
section sim
variable {κ ν : Type} (ek : κ → List UInt8) (ev : ν → List UInt8) (ok : κ → Prop)
def enc (p : κ × ν) : List UInt8 := ek p.1 ++ ev p.2
/-- The table's entries are those of a plain map, in some order. -/
structure Sim (nk : Nat) (L : List (κ × ν)) (T : List (List UInt8)) : Prop where
  perm : T.Perm (L.map (enc ek ev))
  nodup : (L.map Prod.fst).Nodup
  valid : ∀ p ∈ L, ok p.1
  klen : ∀ k, ok k → (ek k).length = nk
  inj : ∀ k k', ok k → ok k' → ek k = ek k' → k = k'
variable {ek ev ok} {nk : Nat} {L : List (κ × ν)} {T : List (List UInt8)}
theorem Sim.len (h : Sim ek ev ok nk L T) : T.length = L.length := by rw [h.perm.length_eq, List.length_map]
theorem enc_take {k : κ} {v : ν} (hk : (ek k).length = nk) : (enc ek ev (k, v)).take nk = ek k := by
  unfold enc; simp only; rw [← hk, List.take_left']; rfl
theorem Sim.found (h : Sim ek ev ok nk L T) {e : Nat} {t : List UInt8} {key : κ} (hT : T[e]? = some t) (hkey : ok key) (ht : t.take nk = ek key) : ∃ (i : Nat) (v : ν), L[i]? = some (key, v) ∧ t = ek key ++ ev v := by
  have hm : t ∈ L.map (enc ek ev) := (h.perm.mem_iff).1 (List.mem_of_getElem? hT)
  obtain ⟨⟨k, v⟩, hp, rfl⟩ := List.mem_map.1 hm
  have hk := h.valid _ hp
  rw [enc_take (h.klen k hk)] at ht
  have := h.inj k key hk hkey ht
  subst this
  obtain ⟨i, hi⟩ := List.mem_iff_getElem?.1 hp
  exact ⟨i, v, hi, rfl⟩
theorem Sim.absent (h : Sim ek ev ok nk L T) {key : κ} (hno : ∀ (e : Nat) (t : List UInt8), T[e]? = some t → t.take nk ≠ ek key) : ∀ p ∈ L, p.1 ≠ key := by
  rintro ⟨k, v⟩ hp rfl
  have hm : enc ek ev (k, v) ∈ T := (h.perm.mem_iff).2 (List.mem_map.2 ⟨_, hp, rfl⟩)
  obtain ⟨e, he⟩ := List.mem_iff_getElem?.1 hm
  exact hno e _ he (enc_take (h.klen k (h.valid _ hp)))
theorem Sim.only (h : Sim ek ev ok nk L T) {i j : Nat} {k : κ} {v v' : ν} (hi : L[i]? = some (k, v)) (hj : L[j]? = some (k, v')) : i = j := by
  have e1 : (L.map Prod.fst)[i]? = some k := by rw [List.getElem?_map, hi]; rfl
  have e2 : (L.map Prod.fst)[j]? = some k := by rw [List.getElem?_map, hj]; rfl
  obtain ⟨h1, e1⟩ := List.getElem?_eq_some_iff.1 e1
  obtain ⟨h2, e2⟩ := List.getElem?_eq_some_iff.1 e2
  exact (List.getElem_inj h.nodup).1 (e1.trans e2.symm)
theorem Sim.put (h : Sim ek ev ok nk L T) {e i : Nat} {key : κ} {v v2 : ν} (hT : T[e]? = some (ek key ++ ev v)) (hL : L[i]? = some (key, v)) : Sim ek ev ok nk (L.set i (key, v2)) (T.set e (ek key ++ ev v2)) := by
  have hb : (L.map (enc ek ev))[i]? = some (ek key ++ ev v) := by rw [List.getElem?_map, hL]; rfl
  have hte := (List.getElem?_eq_some_iff.1 hT).1
  have hle := (List.getElem?_eq_some_iff.1 hL).1
  refine ⟨?_, ?_, ?_, h.klen, h.inj⟩
  · rw [List.map_set]
    refine (perm_set _ _ _ hte).trans (List.Perm.trans ?_ (perm_set _ _ _ (by rw [List.length_map]; exact hle)).symm)
    exact (perm_both h.perm hT hb).cons _
  · have : (L.set i (key, v2)).map Prod.fst = L.map Prod.fst := by
      rw [List.map_set]
      apply List.ext_getElem?
      intro j
      by_cases hj : i = j
      · subst hj
        rw [List.getElem?_set_self (by rw [List.length_map]; exact hle), List.getElem?_map, hL]; rfl
      · rw [List.getElem?_set_ne hj]
    rw [this]; exact h.nodup
  · intro p hp
    rcases List.mem_or_eq_of_mem_set hp with hp | hp
    · exact h.valid p hp
    · rw [hp]; exact (show ok key from h.valid _ (List.mem_of_getElem? hL))
theorem Sim.new (h : Sim ek ev ok nk L T) {key : κ} {v : ν} (hkey : ok key) (hno : ∀ p ∈ L, p.1 ≠ key) : Sim ek ev ok nk (L ++ [(key, v)]) (T ++ [ek key ++ ev v]) := by
  refine ⟨?_, ?_, ?_, h.klen, h.inj⟩
  · rw [List.map_append]; exact h.perm.append_right _
  · rw [List.map_append, List.nodup_append]
    refine ⟨h.nodup, by simp, ?_⟩
    intro a ha b hb
    simp at hb
    subst hb
    obtain ⟨p, hp, rfl⟩ := List.mem_map.1 ha
    exact hno p hp
  · intro p hp
    rcases List.mem_append.1 hp with hp | hp
    · exact h.valid p hp
    · simp at hp; subst hp; exact hkey
theorem Sim.drop (h : Sim ek ev ok nk L T) {e i : Nat} {key : κ} {v : ν} {l : List UInt8} (hT : T[e]? = some (ek key ++ ev v)) (hL : L[i]? = some (key, v)) (hl : T[T.length - 1]? = some l) : Sim ek ev ok nk (L.eraseIdx i) ((T.set e l).take (T.length - 1)) := by
  have hb : (L.map (enc ek ev))[i]? = some (ek key ++ ev v) := by rw [List.getElem?_map, hL]; rfl
  refine ⟨?_, ?_, ?_, h.klen, h.inj⟩
  · rw [map_erase]
    exact (perm_take (List.getElem?_eq_some_iff.1 hT).1 hl).trans (perm_both h.perm hT hb)
  · rw [map_erase]; exact h.nodup.eraseIdx i
  · intro p hp; exact h.valid p ((List.eraseIdx_sublist L i).mem hp)
theorem Sim.nil (hk : ∀ k, ok k → (ek k).length = nk) (hi : ∀ k k', ok k → ok k' → ek k = ek k' → k = k') : Sim ek ev ok nk [] [] := ⟨List.Perm.refl _, by simp, by simp, hk, hi⟩
theorem Sim.empty (h : Sim ek ev ok nk L T) : Sim ek ev ok nk [] [] := Sim.nil h.klen h.inj
end sim
end P
end Go.Proofs.YtghggcehloiemabGreatDoor
