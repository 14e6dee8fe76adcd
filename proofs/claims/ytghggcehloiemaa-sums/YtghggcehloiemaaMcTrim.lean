import Derived.Test.YtghggcehloiemaaMcTW3
import Derived.Test.YtghggcehloiemaaMcF
namespace Go.Proofs.Ytghggcehloiemaa
open Go.RowKit
set_option linter.unusedVariables false
set_option maxRecDepth 16000

/-- What Trim answers: the text and the error. -/
def TrimOf (l r : List UInt8) (er : Nat) : Prop := (P.IsCode l ∧ P.IsTrim l r ∧ er = 0) ∨ (¬ P.IsCode l ∧ r = [] ∧ er = 4)
theorem TrimOf.only {l r r' : List UInt8} {e e' : Nat} (h : TrimOf l r e) (h' : TrimOf l r' e') : r = r' ∧ e = e' := by
  rcases h with ⟨h1, h2, h3⟩ | ⟨h1, h2, h3⟩ <;> rcases h' with ⟨g1, g2, g3⟩ | ⟨g1, g2, g3⟩
  · exact ⟨h2.only g2, by rw [h3, g3]⟩
  · exact absurd h1 g1
  · exact absurd g1 h1
  · exact ⟨by rw [h2, g2], by rw [h3, g3]⟩

set_option maxHeartbeats 2000000 in
theorem trim_any (s : ByteArray) (w : World) (hs : s.size ≤ maxLen) :
    Calls Try.prog 21 #[.string s] w fun e w' => (∃ r er, TrimOf s.data.toList r er ∧ e = .returned (.tuple #[.string ⟨r.toArray⟩, .int .i64 er])) ∧ Below w.heap.size w w' := by
  have HS := hid_m hs
  clear hs
  go_enter Try.func21, Try.ntmps21
  go_wp2_with fail
  refine (mparse_any s _ HS.out).mono ?_
  rintro e w1 ⟨hpost, hb1⟩
  by_cases hc : P.IsCode s.data.toList
  · rw [if_pos hc] at hpost
    obtain ⟨v, rfl, hown⟩ := hpost
    obtain ⟨g, cap, hv, _, _⟩ := hown.form (by rw [P.codeOf_length]; exact hc.some)
    obtain ⟨N, hN⟩ : ∃ N, N = (P.codeOf s.data.toList).length := ⟨_, rfl⟩
    rw [← hN] at hv
    subst hv
    clear hN
    have HC := hid_m hc
    have hbA : Below w1.heap.size w1 (w1.alloc (.cells #[.slice (some ⟨g, 0, none⟩) N cap] 68)) := (Below.refl _ _).alloc (Nat.le_refl _) _
    have HBA := hid_m hbA
    have HOW := hid_m (owns_on hown hbA)
    have HB1 := hid_m hb1
    clear hc hown hb1 hbA
    go_wp2_with fail
    refine (mtrim_any (P.codeOf s.data.toList) (P.codeL_of HC.out) (P.codeOf_small _) g N cap _ _ HOW.out).mono ?_
    rintro e w2 ⟨⟨fl, v2, hfl, rfl, hown2⟩, hb2⟩
    have hcl := P.trim_code (P.codeL_of HC.out) hfl
    obtain ⟨g2, cap2, hv2, _, _⟩ := hown2.form hcl.one
    obtain ⟨N2, hN2⟩ : ∃ N, N = (P.trimList (P.codeOf s.data.toList) fl).length := ⟨_, rfl⟩
    rw [← hN2] at hv2
    subst hv2
    clear hN2
    have hbB : Below w2.heap.size w2 (w2.alloc (.cells #[.slice (some ⟨g2, 0, none⟩) N2 cap2] 68)) := (Below.refl _ _).alloc (Nat.le_refl _) _
    have HTX := hid_m (mtext_any (P.trimList (P.codeOf s.data.toList) fl) g2 N2 cap2 _ _ hcl.few hcl.one (fun x hx => by
      obtain ⟨i, hi⟩ := List.getElem?_of_mem hx
      exact P.okI_small (hcl.all i x hi) (P.trim_small hfl (P.codeOf_small _) x hx)) (owns_on hown2 hbB))
    have HT : Hid (TrimOf s.data.toList (P.text (P.trimList (P.codeOf s.data.toList) fl)) 0) := .inl ⟨HC.out, ⟨fl, hfl, rfl⟩, rfl⟩
    have hb2' : Below w.heap.size w w2 := HB1.out.trans ((HBA.out.trans (hb2.mono HBA.out.size)).mono HB1.out.size)
    have HB2 := hid_m hb2'
    have HBB := hid_m hbB
    clear hb2 hb2' hbB hown2 hcl hfl
    go_wp2_with fail
    refine HTX.out.mono ?_
    rintro e w3 ⟨rfl, hb3⟩
    go_wp2_with fail
    go_ret2
    exact ⟨⟨_, _, HT.out, rfl⟩, HB2.out.trans ((HBB.out.trans (hb3.mono HBB.out.size)).mono HB2.out.size)⟩
  · rw [if_neg hc] at hpost
    subst hpost
    have HT : Hid (TrimOf s.data.toList [] 4) := .inr ⟨hc, rfl, rfl⟩
    have HB1 := hid_m hb1
    clear hc hb1
    go_wp2_with fail
    go_ret2
    exact ⟨⟨_, _, HT.out, rfl⟩, HB1.out.alloc HB1.out.size _⟩
end Go.Proofs.Ytghggcehloiemaa
