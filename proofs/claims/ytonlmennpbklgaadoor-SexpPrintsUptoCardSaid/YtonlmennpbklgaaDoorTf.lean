/- The printer's tree, whole. -/
import Derived.Test.YtonlmennpbklgaaDoorTe
namespace Go.Proofs.YtonlmennpbklgaaDoor
open Go.RowKit
set_option linter.unusedSimpArgs false
set_option linter.unusedVariables false

set_option maxHeartbeats 3200000 in
set_option maxRecDepth 100000 in
theorem ptree_text (p : Nat) (w : World) (s : ByteArray) (A : Option Addr) (m c d k : Nat) (bs : List UInt8) (hp : Pn w p bs k) (hs : s.size ≤ 1100000) (hk : k + 1 ≤ 65536) (hl : bs.length ≤ 262144) :
    Calls Tryd.prog 21 #[.pointer (some ⟨p, 0, none⟩), tva 3 s 0 A m c, .int .i64 (d : Int)] w fun e w' => PutP p bs (34 :: (s.data.toList ++ [34])) (k + 1) w e w' := by
  obtain ⟨hb1, hold⟩ := boxed hp #[.int .i64 3, .string s, .int .i64 0, .slice A m c]
  have HP := Lib.hid (put_any p (k + 1) bs ⟨#[34]⟩ _ hb1 hl (by decide))
  have HQ := Lib.hid (fun w' bs' (h : Pn w' p bs' (k + 1)) (h2 : bs'.length ≤ 262144) => put_any p (k + 1) bs' s w' h h2 (by unfold maxLen; omega))
  have HZ := Lib.hid (fun w' bs' (h : Pn w' p bs' (k + 1)) (h2 : bs'.length ≤ 262144) => put_any p (k + 1) bs' ⟨#[34]⟩ w' h h2 (by decide))
  have HS := Lib.hid (show s.data.toList.length = s.size from by simp)
  have HO := Lib.hid hold
  obtain ⟨c2, f2, lp⟩ := hp.cells
  have dk : decide ((65536 : Int) < (k : Int) + 1) = false := by rw [decide_eq_false_iff_not]; omega
  have hk2 : (k : Int) ≤ 70000 := by omega
  have HX := Lib.hid (show (34 :: (s.data.toList ++ [34])).length = s.size + 2 from by simp)
  clear hb1 hold hp hk
  go_enter Tryd.func21, Tryd.ntmps21
  go_wp2_with fail
  refine (HP.out).mono ?_
  rintro e w1 (⟨g1, rfl, g3, g4⟩ | ⟨g1, rfl, g4⟩)
  · have HQ1 := Lib.hid (HQ.out w1 _ g3 (by simpa using g1))
    have HO1 := Lib.hid (HO.out.trans g4)
    have x1 : w1.cell? ⟨w.heap.size, 1, none⟩ = some (.string s) := (box_kept lp g4).cell 1
    clear g1 g3 g4
    go_wp2_with fail
    refine (HQ1.out).mono ?_
    rintro e w2 (⟨g1, rfl, g3, g4⟩ | ⟨g1, rfl, g4⟩)
    · have HZ1 := Lib.hid (HZ.out w2 _ g3 (by simp at g1 ⊢; omega))
      have HO2 := Lib.hid (HO1.out.trans g4)
      clear g1 g3 g4
      go_wp2_with fail
      refine (HZ1.out).mono ?_
      rintro e w3 (⟨g1, rfl, g3, g4⟩ | ⟨g1, rfl, g4⟩)
      · have R := Lib.hid (show PutP p bs (34 :: (s.data.toList ++ [34])) (k + 1) w (.returned (.bool true)) w3 from .inl ⟨by have := HX.out; simp at g1; omega, rfl, by
          have e : bs ++ 34 :: (s.data.toList ++ [34]) = bs ++ (⟨#[34]⟩ : ByteArray).data.toList ++ s.data.toList ++ (⟨#[34]⟩ : ByteArray).data.toList := by simp
          rw [e]; exact g3, HO2.out.trans g4⟩)
        clear g1 g3 g4
        go_wp2
        go_ret
        exact R.out
      · have R := Lib.hid (show PutP p bs (34 :: (s.data.toList ++ [34])) (k + 1) w (.returned (.bool false)) w3 from .inr ⟨by have := HX.out; simp at g1; omega, rfl, HO2.out.trans g4⟩)
        clear g1 g4
        go_wp2
        go_ret
        exact R.out
    · have R := Lib.hid (show PutP p bs (34 :: (s.data.toList ++ [34])) (k + 1) w (.returned (.bool false)) w2 from .inr ⟨by have := HX.out; simp at g1; omega, rfl, HO1.out.trans g4⟩)
      clear g1 g4
      go_wp2
      go_ret
      exact R.out
  · have R := Lib.hid (show PutP p bs (34 :: (s.data.toList ++ [34])) (k + 1) w (.returned (.bool false)) w1 from .inr ⟨by have := HX.out; simp at g1; omega, rfl, HO.out.trans g4⟩)
    clear g1 g4
    go_wp2
    go_ret
    exact R.out
set_option maxHeartbeats 3200000 in
set_option maxRecDepth 100000 in
theorem ptree_list (p N : Nat) (ih : PListC p N) (W0 w : World) (F : Nat → Prop) (ks : List T) (A : Option Addr) (c d k : Nat) (bs : List UInt8) (hN : cntL ks ≤ N) (hw : Pw W0 w p) (hp : Pn w p bs k) (hso : soL ks) (hsm : smL 300000 ks) (hr : RdL W0 F A ks) (hF : ∀ b, F b → b < W0.heap.size)
    (hk : k + 1 + cntL ks ≤ 65536) (hd : d + 1 + depL ks ≤ 32) (hl : bs.length ≤ 262144) :
    Calls Tryd.prog 21 #[.pointer (some ⟨p, 0, none⟩), tva 4 ⟨#[]⟩ 0 A ks.length c, .int .i64 (d : Int)] w fun e w' => PutP p bs (40 :: (prK ks ++ [41])) (k + (1 + cntL ks)) w e w' := by
  obtain ⟨hb1, hold⟩ := boxed hp #[.int .i64 4, .string ⟨#[]⟩, .int .i64 0, .slice A ks.length c]
  have hh := ih W0 _ F ks A c (d + 1) (k + 1) bs hN (hw.next hold) hb1 hso hsm hr hF hk hd hl
  rw [show ((d + 1 : Nat) : Int) = (d : Int) + 1 by omega] at hh
  have HP := Lib.hid hh
  have HO := Lib.hid hold
  obtain ⟨c2, f2, lp⟩ := hp.cells
  have dk : decide ((65536 : Int) < (k : Int) + 1) = false := by rw [decide_eq_false_iff_not]; omega
  have hk2 : (k : Int) ≤ 70000 := by omega
  have hd2 : (d : Int) ≤ 40 := by omega
  have HK := Lib.hid (show k + 1 + cntL ks = k + (1 + cntL ks) from by omega)
  clear hb1 hold hp hk hh ih hw hd hso hsm hr hF
  go_enter Tryd.func21, Tryd.ntmps21
  go_wp2_with fail
  refine (HP.out).mono ?_
  rintro e w1 (⟨g1, rfl, g3, g4⟩ | ⟨g1, rfl, g4⟩)
  · have R := Lib.hid (show PutP p bs (40 :: (prK ks ++ [41])) (k + (1 + cntL ks)) w (.returned (.bool true)) w1 from .inl ⟨g1, rfl, HK.out ▸ g3, HO.out.trans g4⟩)
    clear g1 g3 g4
    go_wp2
    go_ret
    exact R.out
  · have R := Lib.hid (show PutP p bs (40 :: (prK ks ++ [41])) (k + (1 + cntL ks)) w (.returned (.bool false)) w1 from .inr ⟨g1, rfl, HO.out.trans g4⟩)
    clear g1 g4
    go_wp2
    go_ret
    exact R.out
theorem ptree_of (p N : Nat) (ih : PListC p N) : PTreeC p (N + 1) := by
  intro W0 w F kd n s ks A c d k bs hN hw hp hso hsm hr hF hk hd hl
  have hso' := hso
  unfold soT at hso'
  unfold smT at hsm
  rcases hso' with ⟨rfl, _, rfl, rfl⟩ | ⟨rfl, rfl, hn, rfl⟩ | ⟨rfl, _, rfl, rfl⟩ | ⟨rfl, rfl, rfl, hks⟩
  · have h1 : cntT (.node 1 s 0 []) = 1 := by simp [cntT, cntL]
    have h2 : prT (.node 1 s 0 []) = s.data.toList := by unfold prT; rw [if_pos rfl]
    rw [h1, h2]
    rw [h1] at hk
    exact ptree_word p w s A 0 c d k bs hp (by have := hsm.1; omega) hk hl
  · have h1 : cntT (.node 2 ⟨#[]⟩ n []) = 1 := by simp [cntT, cntL]
    have h2 : prT (.node 2 ⟨#[]⟩ n []) = Lib.itoa n := by unfold prT; rw [if_neg (by decide), if_pos rfl]
    rw [h1, h2]
    rw [h1] at hk
    exact ptree_num p W0 w n A 0 c d k bs hw hp hn hk hl
  · have h1 : cntT (.node 3 s 0 []) = 1 := by simp [cntT, cntL]
    have h2 : prT (.node 3 s 0 []) = 34 :: (s.data.toList ++ [34]) := by unfold prT; rw [if_neg (by decide), if_neg (by decide), if_pos rfl]
    rw [h1, h2]
    rw [h1] at hk
    exact ptree_text p w s A 0 c d k bs hp (by have := hsm.1; omega) hk hl
  · have h1 : cntT (.node 4 ⟨#[]⟩ 0 ks) = 1 + cntL ks := by simp [cntT]
    have h3 : depL [.node 4 ⟨#[]⟩ 0 ks] = depL ks + 1 := by simp [depL]
    rw [h1, prT_list]
    rw [h1] at hk hN
    rw [h3] at hd
    exact ptree_list p N ih W0 w F ks A c d k bs (by omega) hw hp hks hsm.2 hr hF (by omega) (by omega) hl
end Go.Proofs.YtonlmennpbklgaaDoor
