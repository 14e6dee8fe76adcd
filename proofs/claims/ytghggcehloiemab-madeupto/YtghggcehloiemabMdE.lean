import Derived.Test.YtghggcehloiemabMdCAll
namespace Go.Proofs.Ytghggcehloiemab
open Go.RowKit
set_option linter.unusedVariables false
set_option maxRecDepth 16000
def taskV (t : Int) (k v : ByteArray) (f g a s : Int) : Value := .agg #[.int .i64 t, .string k, .string v, .int .i64 f, .int .i64 g, .int .i64 a, .int .i64 s]
def taskB (t : Int) (k v : ByteArray) (f g a s : Int) : Obj := .cells #[.int .i64 t, .string k, .string v, .int .i64 f, .int .i64 g, .int .i64 a, .int .i64 s] 28 (0, 0)
/-- A task lies there. -/
def Tk (tb : Nat) (t : Nat) (k v : ByteArray) (w : World) : Prop := w.cell? ⟨tb, 0, none⟩ = some (.int .i64 t) ∧ w.cell? ⟨tb, 1, none⟩ = some (.string k) ∧ w.cell? ⟨tb, 2, none⟩ = some (.string v)
theorem Tk.of {tb t : Nat} {k v : ByteArray} {f g a s : Int} {w : World} (h : w.heap[tb]? = some (taskB t k v f g a s)) : Tk tb t k v w := by
  unfold taskB at h
  refine ⟨?_, ?_, ?_⟩ <;> (rw [cell_of_row _ _ _ _ _ _ h]; rfl)
theorem Tk.same {tb t : Nat} {k v : ByteArray} {w w' : World} (h : Tk tb t k v w) (hs : w'.heap[tb]? = w.heap[tb]?) : Tk tb t k v w' := by
  obtain ⟨h0, h1, h2⟩ := h
  refine ⟨?_, ?_, ?_⟩
  · rw [World.cell?_of_block (w := w) hs]; exact h0
  · rw [World.cell?_of_block (w := w) hs]; exact h1
  · rw [World.cell?_of_block (w := w) hs]; exact h2
theorem own_lt {w : World} {b o M sl : Nat} {cs : Array Value} {T : TypeId} {lv : Value} {L : List (ByteArray × ByteArray)} (h : Mp w b o M sl cs T lv L) : ∀ g, lv.ownBlock = some g → g < w.heap.size := fun g hg => (h.own.lt g hg).2
theorem Nx.trans {w w1 : World} {a b c : Value} (h : Nx w a b) (k : Nx w1 b c) (hs : w.heap.size ≤ w1.heap.size) : Nx w a c := fun g hg => (k g hg).elim (fun h' => h g h') (fun h' => Or.inr (by omega))
theorem Mp.drew1 {w : World} {b o M sl : Nat} {cs : Array Value} {T : TypeId} {lv : Value} {L : List (ByteArray × ByteArray)} (h : Mp w b o M sl cs T lv L) : Mp w.drew b o M sl cs T lv L := ⟨h.blk, h.a0, h.a1, m_owns_of h.own (fun _ _ => rfl), h.lt, h.here, h.few, h.sl16⟩
theorem Mp.clear {w : World} {b o M sl : Nat} {cs : Array Value} {T : TypeId} {lv : Value} {L : List (ByteArray × ByteArray)} (h : Mp w b o M sl cs T lv L) : Mp (w.setCell ⟨b, o + 1, none⟩ (.slice none 0 0)) b o M sl (cs.setIfInBounds (o + 1) (.slice none 0 0)) T (.slice none 0 0) [] := by
  have hin := (Array.getElem?_eq_some_iff.1 h.a1).1
  refine ⟨by simp [World.setCell, Array.getElem?_modify, h.blk], ?_, ?_, World.ownsRow_nil _ _ _ _, h.lt, by have := h.here; simp [World.setCell]; omega, Nat.zero_le _, h.sl16⟩
  · rw [Array.getElem?_setIfInBounds_ne (by omega)]; exact h.a0
  · rw [Array.getElem?_setIfInBounds_self_of_lt hin]
theorem mapDo_two (sl : Nat) (k v : ByteArray) (L : List (ByteArray × ByteArray)) : (P.mapDo sl 2 k v L).1 = 0 ∨ (P.mapDo sl 2 k v L).1 = 2 := by
  unfold P.mapDo
  rw [if_neg (by decide), if_pos rfl]
  cases P.atK L k with
  | some i => exact Or.inl rfl
  | none =>
    by_cases h : sl ≤ L.length
    · simp only; rw [if_pos h]; exact Or.inr rfl
    · simp only; rw [if_neg h]; exact Or.inl rfl
theorem mapDo_three (sl : Nat) (k v : ByteArray) (L : List (ByteArray × ByteArray)) : (P.mapDo sl 3 k v L).1 = 0 ∨ (P.mapDo sl 3 k v L).1 = 1 := by
  unfold P.mapDo
  rw [if_neg (by decide), if_neg (by decide), if_pos rfl]
  cases P.atK L k with
  | some i => exact Or.inl rfl
  | none => exact Or.inr rfl
set_option maxHeartbeats 4000000 in
theorem status_any {w : World} (B M sl : Nat) (cs : Array Value) (T : TypeId) (lv : Value) (L : List (ByteArray × ByteArray)) (t : Nat) (k v : ByteArray) (f g a s : Int) (h : Mp w B 13 M sl cs T lv L) (ht : t < 4294967296) :
    Calls Try.prog 15 #[.pointer (some ⟨B, 0, none⟩), taskV t k v f g a s] w fun e w' => e = .returned (.int .i64 ((P.mapDo sl t k v L).1 : Nat)) ∧ (∃ lv', Mp w' B 13 M sl (cs.setIfInBounds 14 lv') T lv' (P.mapDo sl t k v L).2 ∧ Nx w lv lv') ∧ Fr B lv.ownBlock w w' := by
  obtain ⟨aa, N, cap, rfl⟩ := owns_slice h.own
  have hlen := And.intro h.few h.sl16
  have hbA : Below w.heap.size w (w.alloc (taskB t k v f g a s)) := (Below.refl _ _).alloc (Nat.le_refl _) _
  have hnA : (w.alloc (taskB t k v f g a s)).heap[w.heap.size]? = some (taskB t k v f g a s) := heap_alloc_new _ _
  have HMA := hid_m (h.on hbA)
  have HTA := hid_m (Tk.of hnA)
  have HFA := hid_m (Fr.of (b := B) (r := (Value.slice aa N cap).ownBlock) hbA)
  have HLA := hid_m (m_blk_lt hnA)
  have HRW := hid_m (own_lt h)
  have HBW := hid_m h.lt2
  have HLEN := hid_m hlen
  clear h hbA hnA hlen
  unfold taskV
  go_enter Try.func15, Try.ntmps15
  go_wp2_with fail
  obtain ⟨tb, htb⟩ : ∃ tb, w.heap.size = tb := ⟨_, rfl⟩
  obtain ⟨W, hW⟩ : ∃ W, w.alloc (taskB t k v f g a s) = W := ⟨_, rfl⟩
  have hW2 : w.alloc (.cells #[.int .i64 t, .string k, .string v, .int .i64 f, .int .i64 g, .int .i64 a, .int .i64 s] 28) = W := hW
  rw [hW] at HMA HTA HFA HLA
  rw [htb] at HTA HLA
  rw [hW2, htb]
  have HTB := hid_m htb
  clear hW hW2 htb
  refine wp_region_held_drew (S := Tk tb t k v) (by kernel_rfl) HTA.out (fun hHeld => ?_)
  refine wpAnyH_take (i := 0) (v := ?_) rfl (by kernel_rfl) (by kernel_rfl) (by kernel_rfl) (fun _ _ _ h => h) (Or.inl ⟨by rfl, ?_⟩) (by assumption) ?_
  rotate_left
  · intro w hSw
    obtain ⟨x0, x1, x2⟩ := hSw
    go_simp
    all_goals with_reducible rfl
  try simp only [Act.put]
  refine wpAnyH_take (i := 1) (v := ?_) rfl (by kernel_rfl) (by kernel_rfl) (by kernel_rfl) (fun _ _ _ h => h) (Or.inl ⟨by rfl, ?_⟩) (by assumption) ?_
  rotate_left
  · intro w hSw
    obtain ⟨x0, x1, x2⟩ := hSw
    go_simp
    all_goals with_reducible rfl
  try simp only [Act.put]
  refine wpAnyH_take (i := 2) (v := ?_) rfl (by kernel_rfl) (by kernel_rfl) (by kernel_rfl) (fun _ _ _ h => h) (Or.inl ⟨by rfl, ?_⟩) (by assumption) ?_
  rotate_left
  · intro w hSw
    obtain ⟨x0, x1, x2⟩ := hSw
    go_simp
    all_goals with_reducible rfl
  try simp only [Act.put]
  refine wpAnyH_take (i := 3) (v := ?_) rfl (by kernel_rfl) (by kernel_rfl) (by kernel_rfl) (fun _ _ _ h => h) (Or.inl ⟨by rfl, ?_⟩) (by assumption) ?_
  rotate_left
  · intro w hSw
    obtain ⟨x0, x1, x2⟩ := hSw
    go_simp
    all_goals with_reducible rfl
  try simp only [Act.put]
  refine wpAnyH_take (i := 4) (v := ?_) rfl (by kernel_rfl) (by kernel_rfl) (by kernel_rfl) (fun _ _ _ h => h) (Or.inl ⟨by rfl, ?_⟩) (by assumption) ?_
  rotate_left
  · intro w hSw
    obtain ⟨x0, x1, x2⟩ := hSw
    go_simp
    all_goals with_reducible rfl
  try simp only [Act.put]
  refine wpAnyH_ready (rs := [5]) (by kernel_rfl) (by simp) ?_
  refine AllReadyH.cons (o := _) rfl (fun K hK => ?_) AllReadyH.nil
  go_simp
  refine (rAt_any (w := W.drew) B 13 M (.slice aa N cap) L k HMA.out.c1 HMA.out.lt2 (m_owns_of HMA.out.own (fun _ _ => rfl)) (by have := HLEN.out; omega)).mono ?_
  rintro e w1 ⟨rfl, hb1⟩
  have HM1 := hid_m (HMA.out.on (w' := w1) (Below.mk hb1.os hb1.tape hb1.output hb1.size hb1.block))
  have HT1 : Hid (Tk tb t k v w1) := HTA.out.same (hb1.block tb HLA.out)
  have HF1 : Hid (Fr B (Value.slice aa N cap).ownBlock w w1) := HFA.out.trans (r' := (Value.slice aa N cap).ownBlock) (w2 := w1) ⟨hb1.os, hb1.tape, hb1.output, hb1.size, fun k hk _ _ => hb1.block k hk⟩ (fun g hg => Or.inl hg)
  have HL1 : Hid (tb < w1.heap.size) := Nat.lt_of_lt_of_le HLA.out hb1.size
  clear hb1 HMA HTA HFA HLA
  obtain ⟨at0, hat0⟩ : ∃ z, atI (P.atK L k) = z := ⟨_, rfl⟩
  rw [hat0]
  have HAT := hid_m hat0
  clear hat0
  go_wp2_with fail
  refine hK.out _ _ HT1.out (fun hHelda => ?_)
  clear hK K
  try simp only [Act.put]
  refine wpAnyH_ready (rs := [6]) (by kernel_rfl) (by simp) ?_
  refine AllReadyH.cons (o := _) rfl (fun K hK => ?_) AllReadyH.nil
  go_simp
  refine hK.out _ _ HT1.out (fun hHeldb => ?_)
  clear hK K
  try simp only [Act.put]
  refine wpAnyH_done (by kernel_rfl) ?_ _
  obtain ⟨q0, q1, q2⟩ := HT1.out
  by_cases h1 : t = 1
  · subst h1
    have HD : Hid (P.mapDo sl 1 k v L = (if (P.atK L k).isSome then 0 else 1, L)) := rfl
    by_cases hn : at0 < 0
    · have HE : Hid ((P.atK L k).isSome = false) := by
        unfold Hid; have := HAT.out
        cases hq : P.atK L k with
        | none => rfl
        | some i => rw [hq] at this; simp only [atI] at this; omega
      go_wp2_with fail
      go_ret
      rw [HD.out, HE.out]
      exact ⟨rfl, ⟨_, by rw [HM1.out.same]; exact HM1.out, fun g hg => Or.inl hg⟩, HF1.out⟩
    · have HE : Hid ((P.atK L k).isSome = true) := by
        unfold Hid; have := HAT.out
        cases hq : P.atK L k with
        | none => rw [hq] at this; simp only [atI] at this; omega
        | some i => rfl
      go_wp2_with fail
      go_ret
      rw [HD.out, HE.out]
      exact ⟨rfl, ⟨_, by rw [HM1.out.same]; exact HM1.out, fun g hg => Or.inl hg⟩, HF1.out⟩
  · by_cases h2 : t = 2
    · subst h2
      go_wp2_with fail
      refine wp_region_held_drew (S := Tk tb 2 k v) (by kernel_rfl) HT1.out (fun hHeld => ?_)
      refine wpAnyH_take (i := 0) (v := ?_) rfl (by kernel_rfl) (by kernel_rfl) (by kernel_rfl) (fun _ _ _ h => h) (Or.inl ⟨by rfl, ?_⟩) (by assumption) ?_
      rotate_left
      · intro w hSw
        obtain ⟨x0, x1, x2⟩ := hSw
        go_simp
        all_goals with_reducible rfl
      try simp only [Act.put]
      refine wpAnyH_take (i := 1) (v := ?_) rfl (by kernel_rfl) (by kernel_rfl) (by kernel_rfl) (fun _ _ _ h => h) (Or.inl ⟨by rfl, ?_⟩) (by assumption) ?_
      rotate_left
      · intro w hSw
        obtain ⟨x0, x1, x2⟩ := hSw
        go_simp
        all_goals with_reducible rfl
      try simp only [Act.put]
      refine wpAnyH_take (i := 2) (v := ?_) rfl (by kernel_rfl) (by kernel_rfl) (by kernel_rfl) (fun _ _ _ h => h) (Or.inl ⟨by rfl, ?_⟩) (by assumption) ?_
      rotate_left
      · intro w hSw
        obtain ⟨x0, x1, x2⟩ := hSw
        go_simp
        all_goals with_reducible rfl
      try simp only [Act.put]
      refine wpAnyH_take (i := 3) (v := ?_) rfl (by kernel_rfl) (by kernel_rfl) (by kernel_rfl) (fun _ _ _ h => h) (Or.inl ⟨by rfl, ?_⟩) (by assumption) ?_
      rotate_left
      · intro w hSw
        obtain ⟨x0, x1, x2⟩ := hSw
        go_simp
        all_goals with_reducible rfl
      try simp only [Act.put]
      refine wpAnyH_take (i := 4) (v := ?_) rfl (by kernel_rfl) (by kernel_rfl) (by kernel_rfl) (fun _ _ _ h => h) (Or.inl ⟨by rfl, ?_⟩) (by assumption) ?_
      rotate_left
      · intro w hSw
        obtain ⟨x0, x1, x2⟩ := hSw
        go_simp
        all_goals with_reducible rfl
      try simp only [Act.put]
      refine wpAnyH_take (i := 5) (v := ?_) rfl (by kernel_rfl) (by kernel_rfl) (by kernel_rfl) (fun _ _ _ h => h) (Or.inl ⟨by rfl, ?_⟩) (by assumption) ?_
      rotate_left
      · intro w hSw
        obtain ⟨x0, x1, x2⟩ := hSw
        go_simp
        all_goals with_reducible rfl
      try simp only [Act.put]
      refine wpAnyH_take (i := 6) (v := ?_) rfl (by kernel_rfl) (by kernel_rfl) (by kernel_rfl) (fun _ _ _ h => h) (Or.inl ⟨by rfl, ?_⟩) (by assumption) ?_
      rotate_left
      · intro w hSw
        obtain ⟨x0, x1, x2⟩ := hSw
        go_simp
        all_goals with_reducible rfl
      try simp only [Act.put]
      refine wpAnyH_ready (rs := [7]) (by kernel_rfl) (by simp) ?_
      refine AllReadyH.cons (o := _) rfl (fun K hK => ?_) AllReadyH.nil
      go_simp
      refine (rPut_any (w := w1.drew) B 13 M sl cs T (.slice aa N cap) L k v HM1.out.drew1).mono ?_
      rintro e w2 ⟨rfl, ⟨lv2, hm2, hx2⟩, hf2⟩
      have HM2 := hid_m hm2
      have HX2 := hid_m (show Nx w (.slice aa N cap) lv2 from fun g hg => (hx2 g hg).elim Or.inl (fun h' => Or.inr (Nat.le_trans HF1.out.size h')))
      have HF2 : Hid (Fr B (Value.slice aa N cap).ownBlock w w2) := HF1.out.trans (r' := (Value.slice aa N cap).ownBlock) (w2 := w2) ⟨hf2.os, hf2.tape, hf2.output, hf2.size, hf2.block⟩ (fun g hg => Or.inl hg)
      have HT2 : Hid (Tk tb 2 k v w2) := HT1.out.same (hf2.block tb HL1.out (by have := HBW.out; have := HTB.out; omega) (fun e => by have := HRW.out tb e; have := HTB.out; omega))
      clear hm2 hx2 hf2
      obtain ⟨md, hmd⟩ : ∃ md, P.mapDo sl 2 k v L = md := ⟨_, rfl⟩
      have hor := mapDo_two sl k v L
      rw [hmd] at HM2 hor ⊢
      have HMD := hid_m hmd
      clear hmd q0 q1 q2
      go_wp2_with fail
      refine hK.out _ _ HT2.out (fun hHelda => ?_)
      clear hK K
      try simp only [Act.put]
      refine wpAnyH_ready (rs := [8]) (by kernel_rfl) (by simp) ?_
      refine AllReadyH.cons (o := _) rfl (fun K hK => ?_) AllReadyH.nil
      go_simp
      refine hK.out _ _ HT2.out (fun hHeldb => ?_)
      clear hK K
      try simp only [Act.put]
      refine wpAnyH_done (by kernel_rfl) ?_ _
      rcases hor with hor | hor
      · rw [hor]
        go_wp2_with fail
        go_ret
        rw [HMD.out]
        exact ⟨by rw [hor]; rfl, ⟨lv2, HM2.out, HX2.out⟩, HF2.out⟩
      · rw [hor]
        go_wp2_with fail
        go_ret
        rw [HMD.out]
        exact ⟨by rw [hor]; rfl, ⟨lv2, HM2.out, HX2.out⟩, HF2.out⟩
    · by_cases h3 : t = 3
      · subst h3
        go_wp2_with fail
        refine wp_region_held_drew (S := Tk tb 3 k v) (by kernel_rfl) HT1.out (fun hHeld => ?_)
        refine wpAnyH_take (i := 0) (v := ?_) rfl (by kernel_rfl) (by kernel_rfl) (by kernel_rfl) (fun _ _ _ h => h) (Or.inl ⟨by rfl, ?_⟩) (by assumption) ?_
        rotate_left
        · intro w hSw
          obtain ⟨x0, x1, x2⟩ := hSw
          go_simp
          all_goals with_reducible rfl
        try simp only [Act.put]
        refine wpAnyH_take (i := 1) (v := ?_) rfl (by kernel_rfl) (by kernel_rfl) (by kernel_rfl) (fun _ _ _ h => h) (Or.inl ⟨by rfl, ?_⟩) (by assumption) ?_
        rotate_left
        · intro w hSw
          obtain ⟨x0, x1, x2⟩ := hSw
          go_simp
          all_goals with_reducible rfl
        try simp only [Act.put]
        refine wpAnyH_take (i := 2) (v := ?_) rfl (by kernel_rfl) (by kernel_rfl) (by kernel_rfl) (fun _ _ _ h => h) (Or.inl ⟨by rfl, ?_⟩) (by assumption) ?_
        rotate_left
        · intro w hSw
          obtain ⟨x0, x1, x2⟩ := hSw
          go_simp
          all_goals with_reducible rfl
        try simp only [Act.put]
        refine wpAnyH_take (i := 3) (v := ?_) rfl (by kernel_rfl) (by kernel_rfl) (by kernel_rfl) (fun _ _ _ h => h) (Or.inl ⟨by rfl, ?_⟩) (by assumption) ?_
        rotate_left
        · intro w hSw
          obtain ⟨x0, x1, x2⟩ := hSw
          go_simp
          all_goals with_reducible rfl
        try simp only [Act.put]
        refine wpAnyH_take (i := 4) (v := ?_) rfl (by kernel_rfl) (by kernel_rfl) (by kernel_rfl) (fun _ _ _ h => h) (Or.inl ⟨by rfl, ?_⟩) (by assumption) ?_
        rotate_left
        · intro w hSw
          obtain ⟨x0, x1, x2⟩ := hSw
          go_simp
          all_goals with_reducible rfl
        try simp only [Act.put]
        refine wpAnyH_ready (rs := [5]) (by kernel_rfl) (by simp) ?_
        refine AllReadyH.cons (o := _) rfl (fun K hK => ?_) AllReadyH.nil
        go_simp
        refine (rDrop_any (w := w1.drew) B 13 M sl cs T (.slice aa N cap) L k v HM1.out.drew1).mono ?_
        rintro e w2 ⟨rfl, ⟨lv2, hm2, hx2⟩, hf2⟩
        have HM2 := hid_m hm2
        have HX2 := hid_m (show Nx w (.slice aa N cap) lv2 from fun g hg => (hx2 g hg).elim Or.inl (fun h' => Or.inr (Nat.le_trans HF1.out.size h')))
        have HF2 : Hid (Fr B (Value.slice aa N cap).ownBlock w w2) := HF1.out.trans (r' := (Value.slice aa N cap).ownBlock) (w2 := w2) ⟨hf2.os, hf2.tape, hf2.output, hf2.size, hf2.block⟩ (fun g hg => Or.inl hg)
        have HT2 : Hid (Tk tb 3 k v w2) := HT1.out.same (hf2.block tb HL1.out (by have := HBW.out; have := HTB.out; omega) (fun e => by have := HRW.out tb e; have := HTB.out; omega))
        clear hm2 hx2 hf2
        obtain ⟨md, hmd⟩ : ∃ md, P.mapDo sl 3 k v L = md := ⟨_, rfl⟩
        have hor := mapDo_three sl k v L
        rw [hmd] at HM2 hor ⊢
        have HMD := hid_m hmd
        clear hmd q0 q1 q2
        go_wp2_with fail
        refine hK.out _ _ HT2.out (fun hHelda => ?_)
        clear hK K
        try simp only [Act.put]
        refine wpAnyH_ready (rs := [6]) (by kernel_rfl) (by simp) ?_
        refine AllReadyH.cons (o := _) rfl (fun K hK => ?_) AllReadyH.nil
        go_simp
        refine hK.out _ _ HT2.out (fun hHeldb => ?_)
        clear hK K
        try simp only [Act.put]
        refine wpAnyH_done (by kernel_rfl) ?_ _
        rcases hor with hor | hor
        · rw [hor]
          go_wp2_with fail
          go_ret
          rw [HMD.out]
          exact ⟨by rw [hor]; rfl, ⟨lv2, HM2.out, HX2.out⟩, HF2.out⟩
        · rw [hor]
          go_wp2_with fail
          go_ret
          rw [HMD.out]
          exact ⟨by rw [hor]; rfl, ⟨lv2, HM2.out, HX2.out⟩, HF2.out⟩
      · by_cases h4 : t = 4
        · subst h4
          have HD : Hid (P.mapDo sl 4 k v L = (0, L)) := rfl
          go_wp2_with fail
          go_ret
          rw [HD.out]
          exact ⟨rfl, ⟨_, by rw [HM1.out.same]; exact HM1.out, fun g hg => Or.inl hg⟩, HF1.out⟩
        · by_cases h5 : t = 5
          · subst h5
            have HD : Hid (P.mapDo sl 5 k v L = (0, [])) := rfl
            have d1 : w1.cell? ⟨B, 14, none⟩ = some (.slice aa N cap) := HM1.out.c1
            have dz : w1.frozen? ⟨B, 14, none⟩ = false := HM1.out.fz
            go_wp2_with fail
            go_ret
            rw [HD.out]
            exact ⟨rfl, ⟨.slice none 0 0, HM1.out.clear, fun g hg => by simp [Value.ownBlock] at hg⟩, HF1.out.set 14 _⟩
          · have HD : Hid (P.mapDo sl t k v L = (3, L)) := by unfold Hid P.mapDo; rw [if_neg h1, if_neg h2, if_neg h3, if_neg h4, if_neg h5]
            have g1 : ((t : Int) == 1) = false := by rw [beq_eq_false_iff_ne]; omega
            have g2 : ((t : Int) == 2) = false := by rw [beq_eq_false_iff_ne]; omega
            have g3 : ((t : Int) == 3) = false := by rw [beq_eq_false_iff_ne]; omega
            have g4 : ((t : Int) == 4) = false := by rw [beq_eq_false_iff_ne]; omega
            have g5 : ((t : Int) == 5) = false := by rw [beq_eq_false_iff_ne]; omega
            clear h1 h2 h3 h4 h5
            go_wp2_with fail
            go_ret
            rw [HD.out]
            exact ⟨rfl, ⟨_, by rw [HM1.out.same]; exact HM1.out, fun g hg => Or.inl hg⟩, HF1.out⟩
end Go.Proofs.Ytghggcehloiemab
