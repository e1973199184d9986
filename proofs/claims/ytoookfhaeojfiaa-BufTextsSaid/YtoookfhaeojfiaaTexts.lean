/- BufTexts answers true for bytes that read as a list. -/
import Derived.Test.YtoookfhaeojfiaaBalive
import Derived.Test.YtoookfhaeojfiaaTxt
import Derived.Test.YtoookfhaeojfiaaLit
namespace Go.Proofs.Ytoookfhaeojfiaa
open Go.RowKit

/-- What Text answers. -/
def txtV (l : List Int) (p : Int) : Value :=
  if 0 ≤ p ∧ p + 1 ≤ l.length then match zeroAt (l.drop p.toNat) with
    | some n => .tuple #[.string (strOfNums ((l.drop p.toNat).take n)), .int .i64 0]
    | none => .tuple #[.string ByteArray.empty, .int .i64 21]
  else .tuple #[.string ByteArray.empty, .int .i64 21]
/-- It is a text and an error. -/
theorem txtV_is (l : List Int) (p : Int) : ∃ (s : ByteArray) (e : Int), txtV l p = .tuple #[.string s, .int .i64 e] := by
  unfold txtV
  split
  · split
    · exact ⟨_, _, rfl⟩
    · exact ⟨_, _, rfl⟩
  · exact ⟨_, _, rfl⟩
theorem text_any (A : Option Addr) (c : Nat) (p : Int) (l : List Int) (hb : By l) (hm : l.length ≤ maxLen) (hlc : l.length ≤ c) (hcm : c ≤ maxLen) (w : World) (hr : Rd u8v w A l) :
    Calls Try.prog 18 #[.slice A l.length c, .int .i64 p] w fun e w' => e = .returned (txtV l p) ∧ w = w' := by
  unfold txtV
  by_cases h : 0 ≤ p ∧ p + 1 ≤ l.length
  · obtain ⟨a, rfl⟩ := Int.eq_ofNat_of_zero_le h.1
    rw [if_pos h, Int.toNat_natCast]
    cases hz : zeroAt (l.drop a) with
    | none => exact text_no A c a l hb hm hlc hcm (by omega) w hr hz
    | some n => exact text_yes A c a n l hb hm hlc hcm (by omega) w hr hz
  · rw [if_neg h]; exact text_out A _ c p hm h w
theorem rtext_any (A : Option Addr) (c : Nat) (p : Int) (l : List Int) (hb : By l) (hm : l.length ≤ maxLen) (hlc : l.length ≤ c) (hcm : c ≤ maxLen) (w : World) (hr : Rd u8v w A l) :
    Calls Try.prog 17 #[.slice A l.length c, .int .i64 p] w fun e w' => e = .returned (txtV l p) ∧ w = w' := by
  unfold txtV
  by_cases h : 0 ≤ p ∧ p + 1 ≤ l.length
  · obtain ⟨a, rfl⟩ := Int.eq_ofNat_of_zero_le h.1
    rw [if_pos h, Int.toNat_natCast]
    exact rtext_in A c a l _ hb hm hlc hcm (by omega) w hr (fun hz => by rw [hz]) (fun n hz => by rw [hz])
  · rw [if_neg h]; exact rtext_out A _ c p hm h w
set_option maxHeartbeats 3200000 in
theorem texts_walk (A : Option Addr) (c : Nat) (p : Int) (l : List Int) (hb : By l) (hm : l.length ≤ 140737488351232) (hlc : l.length ≤ c) (hcm : c ≤ maxLen) (w : World) (hr : Rd u8v w A l) :
    Calls Try.prog 6 #[.slice A l.length c, .int .i64 p] w fun e w' => e = .returned (.bool true) ∧ Fr w w' := by
  have hmm : l.length ≤ maxLen := by unfold maxLen; omega
  have HA := Lib.hid alive
  have HB := Lib.hid (fun A c (h1 : l.length ≤ c) (h2 : c ≤ maxLen) wx hr => text_any A c p l hb hmm h1 h2 wx hr)
  have HC := Lib.hid (fun wx hr => rtext_any A c p l hb hmm hlc hcm wx hr)
  obtain ⟨s, er, ev⟩ := txtV_is l p
  rw [ev] at HB HC
  have HR := Lib.hid hr
  clear hr ev hb
  go_enter Try.func6, Try.ntmps6
  go_wp2_with (first
    | (go_at_call 7; refine (HA.out _).mono ?_; rintro e w1 ⟨rfl, hf1⟩; have HF1 := Lib.hid hf1; clear hf1)
    | (go_at_call 17; refine (HC.out _ (HR.out.fr HF1.out)).mono ?_; rintro e w2 ⟨rfl, rfl⟩)
    | (at_builtin; refine wpList_append_rd one_u8' _ rfl (.tmp 18) (.tmp 19) 22 rfl w1.heap.size 5 Try.underlying22 Try.info5 rfl (.slice (some ⟨w1.heap.size, 0, none⟩) 0 0) [] rfl (own_new w1) A l.length c l rfl rfl ((HR.out.fr HF1.out).alloc _) ?_ ?_ ?_ ?_))
  · simp; unfold maxLen; omega
  · simp; omega
  · simp
  intro x2 w2 HG
  have HF2 := Lib.hid (HG.out.fr (HF1.out.alloc _) HF1.out.size (own_new w1).base_le)
  obtain ⟨A2, c2, rfl, h1, h2, hr2⟩ := HG.out.own.val
  have HR2 := Lib.hid hr2
  clear hr2 HG
  go_wp2_with (first
    | (go_at_call 18; refine (HB.out _ _ h1 h2 _ HR2.out).mono ?_; rintro e w3 ⟨rfl, rfl⟩))
  go_ret
  exact ⟨ret_bool (by simp), HF2.out⟩
end Go.Proofs.Ytoookfhaeojfiaa
