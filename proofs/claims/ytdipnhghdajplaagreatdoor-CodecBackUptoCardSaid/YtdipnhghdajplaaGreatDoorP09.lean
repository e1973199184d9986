/- The document's Tokens. -/
import Derived.Test.YtdipnhghdajplaaGreatDoorP00
import Derived.Deep.DeepCutAuto
import Derived.Deep.CutBlock
namespace Go.Proofs.YtdipnhghdajplaaGreatDoor
open Go.RowKit
set_option linter.unusedSimpArgs false
set_option linter.unusedVariables false
def RelTk (s : ByteArray) (w : World) (o i : Value) (wr : World) : Prop :=
 ∃ (j : Nat) (ts : List Tk), j ≤ s.size ∧ i = .int .i64 (j : Int) ∧ Tok wr w.heap.size o ts ∧ Fr w wr ∧ ts ++ tokens s.data.toList j = tokens s.data.toList 0 ∧ ts.length ≤ j
def TkPost (s : ByteArray) (w : World) (e : Ending) (w' : World) : Prop := Fr w w' ∧ ∃ v, e = .returned v ∧ Tok w' w.heap.size v (tokens s.data.toList 0)
def RelSk (s : ByteArray) (j : Nat) (i : Value) : Prop := ∃ k : Nat, j ≤ k ∧ k ≤ s.size ∧ i = .int .i64 (k : Int) ∧ j + skN false (s.data.toList.drop j) = k + skN true (s.data.toList.drop k)
def RelRu (s : ByteArray) (j : Nat) (i : Value) : Prop := ∃ k : Nat, j < k ∧ k ≤ s.size ∧ i = .int .i64 (k : Int) ∧ j + ruN (s.data.toList.drop j) = k + ruN (s.data.toList.drop k)
theorem blkn (X : World) (n : Nat) (h : X.heap.size = n) (cs : Array Value) (t : TypeId) : (X.alloc (.cells cs t)).heap[n]? = some (.cells cs t (0, 0)) := by
 subst h; exact heap_alloc_new X _
theorem Tok.wr {a b : World} {p base : Nat} {v : Value} {ts : List Tk} (h : Tok a base v ts) (k : Wr p a b) (hn : v.ownBlock ≠ some p) : Tok b base v ts := World.ownsRow.kept h k (.inr hn)
theorem Bk.five {w : World} {g : Nat} {t : TypeId} {a b c d e : Value} (h : Bk w g t #[a, b, c, d, e]) : w.cell? ⟨g, 0, none⟩ = some a ∧ w.cell? ⟨g, 1, none⟩ = some b ∧ w.cell? ⟨g, 2, none⟩ = some c ∧ w.cell? ⟨g, 3, none⟩ = some d ∧ w.cell? ⟨g, 4, none⟩ = some e ∧
   w.frozen? ⟨g, 0, none⟩ = false ∧ w.frozen? ⟨g, 1, none⟩ = false ∧ w.frozen? ⟨g, 2, none⟩ = false ∧ w.frozen? ⟨g, 3, none⟩ = false ∧ w.frozen? ⟨g, 4, none⟩ = false := ⟨h.cell 0, h.cell 1, h.cell 2, h.cell 3, h.cell 4, h.free 0, h.free 1, h.free 2, h.free 3, h.free 4⟩
abbrev set5 (w : World) (g : Nat) (x0 x1 x2 x3 x4 : Value) : World := (((((w.setCell ⟨g, 0, none⟩ x0).setCell ⟨g, 1, none⟩ x1).setCell ⟨g, 2, none⟩ x2).setCell ⟨g, 3, none⟩ x3).setCell ⟨g, 4, none⟩ x4)
theorem Bk.set5 {w : World} {g : Nat} {t : TypeId} {a b c d e : Value} (h : Bk w g t #[a, b, c, d, e]) (x0 x1 x2 x3 x4 : Value) : Bk (set5 w g x0 x1 x2 x3 x4) g t #[x0, x1, x2, x3, x4] := ((((h.set 0 x0).set 1 x1).set 2 x2).set 3 x3).set 4 x4
theorem Wr.set5 (w : World) (g : Nat) (x0 x1 x2 x3 x4 : Value) : Wr g w (set5 w g x0 x1 x2 x3 x4) := ((((((Wr.refl g w).setp 0 x0).setp 1 x1).setp 2 x2).setp 3 x3).setp 4 x4)
theorem Fr.set5 {W w : World} (h : Fr W w) {g : Nat} (hg : W.heap.size ≤ g) (x0 x1 x2 x3 x4 : Value) : Fr W (set5 w g x0 x1 x2 x3 x4) := (((((h.set (p := ⟨g, 0, none⟩) hg x0).set (p := ⟨g, 1, none⟩) hg x1).set (p := ⟨g, 2, none⟩) hg x2).set (p := ⟨g, 3, none⟩) hg x3).set (p := ⟨g, 4, none⟩) hg x4)
theorem cut_run (s : ByteArray) (j k : Nat) (h : j ≤ k) (hk : k ≤ s.size) : (s.extract j k).data.toList = (s.data.toList.drop j).take (k - j) := by
 obtain ⟨n, rfl⟩ : ∃ n, k = j + n := ⟨k - j, by omega⟩
 rw [show j + n - j = n by omega, sub_list]
theorem cut_eq (s : ByteArray) (j k : Nat) (h : j ≤ k) (hk : k ≤ s.size) : s.extract j k = ⟨((s.data.toList.drop j).take (k - j)).toArray⟩ := by
 apply ByteArray.ext; apply Array.toList_inj.1; rw [cut_run s j k h hk]
theorem leaf_word {c : UInt8} {r : List UInt8} (h34 : c.toNat ≠ 34) (hin : inB c = true) (hnu : nuB c = false) : leaf c r = .inr (.node 1 ⟨((c :: r).take (ruN (c :: r))).toArray⟩ 0 [], ruN (c :: r)) := by
 unfold leaf; rw [if_neg h34, if_pos hin, if_neg (by simp [hnu])]
theorem leaf_num {c : UInt8} {r : List UInt8} {n : Int} (h34 : c.toNat ≠ 34) (hin : inB c = true) (hnu : nuB c = true) (hn : numL ((c :: r).take (ruN (c :: r))) = some n) : leaf c r = .inr (.node 2 ⟨#[]⟩ n [], ruN (c :: r)) := by
 unfold leaf; rw [if_neg h34, if_pos hin, if_pos hnu, hn]
theorem leaf_nonum {c : UInt8} {r : List UInt8} (h34 : c.toNat ≠ 34) (hin : inB c = true) (hnu : nuB c = true) (hn : numL ((c :: r).take (ruN (c :: r))) = none) : leaf c r = .inl 0 := by
 unfold leaf; rw [if_neg h34, if_pos hin, if_pos hnu, hn]
theorem leaf_no {c : UInt8} {r : List UInt8} (h34 : c.toNat ≠ 34) (hin : inB c = false) : leaf c r = .inl 0 := by
 unfold leaf; rw [if_neg h34, if_neg (by simp [hin])]
theorem leaf_text {c : UInt8} {r : List UInt8} (h34 : c.toNat = 34) : leaf c r = match textL r 0 with
   | .closed m => .inr (.node 3 ⟨(r.take m).toArray⟩ 0 [], m + 2)
   | .wrong m => .inl (m + 1)
   | .unclosed => .inl 0 := by
 unfold leaf; rw [if_pos h34]; cases textL r 0 <;> rfl
theorem skN_59 {c : UInt8} {r : List UInt8} (h : (c.toNat : Int) = 59) : skN false (c :: r) = skN true (c :: r) := by
 rw [show skN false (c :: r) = skN true r + 1 by rw [skN, if_neg (by omega), if_pos (by omega)], show skN true (c :: r) = skN true r + 1 by rw [skN, if_neg (by omega)]]
theorem tkn_leaf {L r : List UInt8} {j n : Nat} {c : UInt8} {t : T} (hd : L.drop j = c :: r) (h : Nb c) (h1 : c.toNat ≠ 41) (h2 : c.toNat ≠ 40) (hl : leaf c r = .inr (t, n)) : tokens L j = tokT j t :: tokens L (j + n) := by
 rw [tokens_body hd h, if_neg h1, if_neg h2, hl]
theorem tkn_bad {L r : List UInt8} {j d : Nat} {c : UInt8} (hd : L.drop j = c :: r) (h : Nb c) (h1 : c.toNat ≠ 41) (h2 : c.toNat ≠ 40) (hl : leaf c r = .inl d) : tokens L j = [⟨j, 6, 0, j + d, ⟨#[]⟩⟩] := by
 rw [tokens_body hd h, if_neg h1, if_neg h2, hl]
theorem tkn_opn {L r : List UInt8} {j : Nat} {c : UInt8} (hd : L.drop j = c :: r) (h : (c.toNat : Int) = 40) : tokens L j = ⟨j, 4, 0, 0, ⟨#[]⟩⟩ :: tokens L (j + 1) := by
 rw [tokens_body hd ⟨by omega, by omega⟩, if_neg (by omega), if_pos (by omega)]
theorem tkn_cls {L r : List UInt8} {j : Nat} {c : UInt8} (hd : L.drop j = c :: r) (h : (c.toNat : Int) = 41) : tokens L j = ⟨j, 5, 0, 0, ⟨#[]⟩⟩ :: tokens L (j + 1) := by
 rw [tokens_body hd ⟨by omega, by omega⟩, if_pos (by omega)]
theorem tkn_blank {L r : List UInt8} {j : Nat} {c : UInt8} (hj : j < L.length) (hd : L.drop j = c :: r) (hr : r = L.drop (j + 1)) (h : (c.toNat : Int) = 32 ∨ (c.toNat : Int) = 10) : tokens L j = tokens L (j + 1) := by
 refine tokens_skip (by omega) (by omega) ?_
 rw [hd, skN, if_pos (by omega), hr]; omega
theorem snoc_tk {ts r z : List Tk} {t : Tk} {x : List Tk} (h : ts ++ x = z) (hx : x = t :: r) : (ts ++ [t]) ++ r = z := by
 rw [List.append_assoc, List.singleton_append, ← hx]; exact h
theorem last_tk {ts z : List Tk} {t : Tk} {x : List Tk} (h : ts ++ x = z) (hx : x = [t]) : ts ++ [t] = z := by rw [← hx]; exact h
set_option maxHeartbeats 12800000 in
set_option maxRecDepth 100000 in
theorem tokens_any (s : ByteArray) (w : World) (hs : s.size ≤ 262144) :
   Calls Tryz.prog 87 #[.string s] w fun e w' => TkPost s w e w' := by
 have hs2 : (s.size : Int) ≤ 300000 := by omega
 have HS := Lib.hid hs
 clear hs
 go_enter Tryz.func87, Tryz.ntmps87
 go_wp2
 go_loopw [3, 4] (fun o i wr => RelTk s w o i wr) (fun _ i _ => s.size - (intOf i).toNat)
 case atStart => exact ⟨0, [], Nat.zero_le _, rfl, Tok.new w, (Fr.refl w).alloc _, rfl, Nat.le_refl _⟩
 case round =>
   obtain ⟨j, ts, hj, rfl, ht, hf, hts, hln⟩ := hrel
   have HT := Lib.hid ht
   have HF := Lib.hid hf
   have HTS := Lib.hid hts
   have HLN := Lib.hid hln
   have HSZ := Lib.hid (show w.heap.size ≤ wr.heap.size from hf.size)
   clear ht hf hts hln
   by_cases hlt : j < s.size
   · have HD := Lib.hid (drop_at s j hlt)
     have hj2 : (j : Int) < 300000 := by omega
     by_cases h32 : (s[j].toNat : Int) = 32
     · have b32 : ((s[j].toNat : Int) == 32) = true := by rw [beq_iff_eq]; omega
       have HTK := Lib.hid (tkn_blank (by simpa using hlt) HD.out rfl (.inl h32))
       clear h32
       go_wp2
       go_roundw
       case rel => exact ⟨j + 1, ts, by omega, by go_num, HT.out.alloc _, HF.out.alloc _, HTK.out ▸ HTS.out, by have := HLN.out; omega⟩
       case measure => simp [intOf]; omega
     by_cases h10 : (s[j].toNat : Int) = 10
     · have b32 : ((s[j].toNat : Int) == 32) = false := by rw [beq_eq_false_iff_ne]; omega
       have b10 : ((s[j].toNat : Int) == 10) = true := by rw [beq_iff_eq]; omega
       have HTK := Lib.hid (tkn_blank (by simpa using hlt) HD.out rfl (.inr h10))
       clear h10
       go_wp2
       go_roundw
       case rel => exact ⟨j + 1, ts, by omega, by go_num, HT.out.alloc _, HF.out.alloc _, HTK.out ▸ HTS.out, by have := HLN.out; omega⟩
       case measure => simp [intOf]; omega
     by_cases h59 : (s[j].toNat : Int) = 59
     · have b32 : ((s[j].toNat : Int) == 32) = false := by rw [beq_eq_false_iff_ne]; omega
       have b10 : ((s[j].toNat : Int) == 10) = false := by rw [beq_eq_false_iff_ne]; omega
       have b59 : ((s[j].toNat : Int) == 59) = true := by rw [beq_iff_eq]; omega
       have H59 := Lib.hid h59
       clear h59
       go_wp2
       go_loop [4] (fun i => RelSk s j i) (fun i => s.size - (intOf i).toNat)
       case atStart => exact ⟨j, Nat.le_refl _, by omega, rfl, by rw [HD.out, skN_59 H59.out]⟩
       case round =>
         obtain ⟨k, hjk, hk, rfl, hq⟩ := hrel
         have HQ := Lib.hid hq
         clear hq
         by_cases hlk : k < s.size
         · have HK := Lib.hid (drop_at s k hlk)
           by_cases hk10 : (s[k].toNat : Int) = 10
           · have c10 : ((s[k].toNat : Int) != 10) = false := by rw [hk10]; rfl
             have HX := Lib.hid (show j + skN false (s.data.toList.drop j) = k + skN false (s.data.toList.drop k) from by have := HQ.out; rw [HK.out, skN, if_pos (by omega)] at this; rw [HK.out, skN, if_pos (by omega)]; exact this)
             have HKJ := Lib.hid (show j < k from by
               rcases Nat.lt_or_ge j k with h | h
               · exact h
               · obtain rfl : j = k := by omega
                 have := H59.out; omega)
             clear hk10
             go_wp2
             go_roundw
             case rel => exact ⟨k, ts, by omega, by go_num, HT.out.alloc _, HF.out.alloc _, (tokens_skip (by simp; omega) (by simp; omega) HX.out) ▸ HTS.out, by have := HLN.out; have := HKJ.out; omega⟩
             case measure => have := HKJ.out; simp [intOf]; omega
           · have c10 : ((s[k].toNat : Int) != 10) = true := by simpa using hk10
             have HX := Lib.hid (show j + skN false (s.data.toList.drop j) = (k + 1) + skN true (s.data.toList.drop (k + 1)) from by have := HQ.out; rw [HK.out, skN, if_neg (by omega)] at this; omega)
             clear hk10
             go_wp2
             go_round
             case rel => exact ⟨k + 1, by omega, by omega, by go_num, HX.out⟩
             case measure => simp [intOf]; omega
         · obtain rfl : k = s.size := by omega
           have HX := Lib.hid (show j + skN false (s.data.toList.drop j) = s.size + skN false (s.data.toList.drop s.size) from by have := HQ.out; rw [drop_all] at this ⊢; exact this)
           go_wp2
           go_roundw
           case rel => exact ⟨s.size, ts, Nat.le_refl _, by go_num, HT.out.alloc _, HF.out.alloc _, (tokens_skip (by simp; omega) (by simp) HX.out) ▸ HTS.out, by have := HLN.out; omega⟩
           case measure => simp [intOf]; omega
     by_cases h40 : (s[j].toNat : Int) = 40
     · have b32 : ((s[j].toNat : Int) == 32) = false := by rw [beq_eq_false_iff_ne]; omega
       have b10 : ((s[j].toNat : Int) == 10) = false := by rw [beq_eq_false_iff_ne]; omega
       have b59 : ((s[j].toNat : Int) == 59) = false := by rw [beq_eq_false_iff_ne]; omega
       have b40 : ((s[j].toNat : Int) == 40) = true := by rw [beq_iff_eq]; omega
       have HTK := Lib.hid (tkn_opn HD.out h40)
       have HNX := Lib.hid (show j < j + 1 ∧ j + 1 ≤ s.size from ⟨by omega, by omega⟩)
       clear h40
       go_upto_region 27 with (fail)
       go_wp2_with (at_builtin; refine wpList_push_tok (by kernel_rfl) (.tmp 108) (.tmp 110) rfl w.heap.size u3 ts ⟨j, 4, 0, 0, ⟨#[]⟩⟩ (wr.heap.size + 1) rfl rfl (by repeat (first | exact HT.out | apply Tok.alloc)) (by exact blkn _ _ (by simp) _ _) (by have := HLN.out; omega) (by have := HF.out.size; have := HSZ.out; simp; omega) ?_; intro v7 w7 HP7; have r1 : w7.cell? ⟨wr.heap.size, 1, none⟩ = some (.int .i64 4) := (HP7.out.bk (b := wr.heap.size) (Bk.alloc (Bk.new wr 181 (tkA ⟨j, 4, 0, 0, ⟨#[]⟩⟩)) _) (fun e => by have := (HT.out.lt _ e).2; omega)).cell 1)
       go_roundw
       case rel => exact ⟨j + 1, ts ++ [⟨j, 4, 0, 0, ⟨#[]⟩⟩], by have := HNX.out; omega, by go_num, HP7.out.tok, HP7.out.fr w ((HF.out.alloc _).alloc _) (Nat.le_refl _), snoc_tk HTS.out HTK.out, by have := HLN.out; have := HNX.out; simp; omega⟩
       case measure => have := HNX.out; simp [intOf]; omega
     by_cases h41 : (s[j].toNat : Int) = 41
     · have b32 : ((s[j].toNat : Int) == 32) = false := by rw [beq_eq_false_iff_ne]; omega
       have b10 : ((s[j].toNat : Int) == 10) = false := by rw [beq_eq_false_iff_ne]; omega
       have b59 : ((s[j].toNat : Int) == 59) = false := by rw [beq_eq_false_iff_ne]; omega
       have b40 : ((s[j].toNat : Int) == 40) = false := by rw [beq_eq_false_iff_ne]; omega
       have b41 : ((s[j].toNat : Int) == 41) = true := by rw [beq_iff_eq]; omega
       have HTK := Lib.hid (tkn_cls HD.out h41)
       have HNX := Lib.hid (show j < j + 1 ∧ j + 1 ≤ s.size from ⟨by omega, by omega⟩)
       clear h41
       go_upto_region 27 with (fail)
       go_wp2_with (at_builtin; refine wpList_push_tok (by kernel_rfl) (.tmp 108) (.tmp 110) rfl w.heap.size u3 ts ⟨j, 5, 0, 0, ⟨#[]⟩⟩ (wr.heap.size + 1) rfl rfl (by repeat (first | exact HT.out | apply Tok.alloc)) (by exact blkn _ _ (by simp) _ _) (by have := HLN.out; omega) (by have := HF.out.size; have := HSZ.out; simp; omega) ?_; intro v7 w7 HP7; have r1 : w7.cell? ⟨wr.heap.size, 1, none⟩ = some (.int .i64 5) := (HP7.out.bk (b := wr.heap.size) (Bk.alloc (Bk.new wr 181 (tkA ⟨j, 5, 0, 0, ⟨#[]⟩⟩)) _) (fun e => by have := (HT.out.lt _ e).2; omega)).cell 1)
       go_roundw
       case rel => exact ⟨j + 1, ts ++ [⟨j, 5, 0, 0, ⟨#[]⟩⟩], by have := HNX.out; omega, by go_num, HP7.out.tok, HP7.out.fr w ((HF.out.alloc _).alloc _) (Nat.le_refl _), snoc_tk HTS.out HTK.out, by have := HLN.out; have := HNX.out; simp; omega⟩
       case measure => have := HNX.out; simp [intOf]; omega
     by_cases h34 : (s[j].toNat : Int) = 34
     · have b32 : ((s[j].toNat : Int) == 32) = false := by rw [beq_eq_false_iff_ne]; omega
       have b10 : ((s[j].toNat : Int) == 10) = false := by rw [beq_eq_false_iff_ne]; omega
       have b59 : ((s[j].toNat : Int) == 59) = false := by rw [beq_eq_false_iff_ne]; omega
       have b40 : ((s[j].toNat : Int) == 40) = false := by rw [beq_eq_false_iff_ne]; omega
       have b41 : ((s[j].toNat : Int) == 41) = false := by rw [beq_eq_false_iff_ne]; omega
       have b34 : ((s[j].toNat : Int) == 34) = true := by rw [beq_iff_eq]; omega
       have HTL := Lib.hid (leaf_text (c := s[j]) (r := s.data.toList.drop (j + 1)) (by omega))
       have HNB := Lib.hid (show Nb s[j] ∧ s[j].toNat ≠ 41 ∧ s[j].toNat ≠ 40 from ⟨⟨by omega, by omega⟩, by omega, by omega⟩)
       have HX := Lib.hid (text_any j s (wr.alloc (.cells (tkA ⟨j, 6, 0, j, ⟨#[]⟩⟩) 181)) hlt (by have := HS.out; omega))
       clear h34
       rcases hq : textL (s.data.toList.drop (j + 1)) 0 with m | m | _
       · rw [hq] at HX HTL
         have hm := textL_le hq
         have hml : (s.data.toList.drop (j + 1)).length = s.size - (j + 1) := by simp
         rw [hml] at hm
         have HNX := Lib.hid (show j < j + (m + 2) ∧ j + (m + 2) ≤ s.size from ⟨by omega, by omega⟩)
         have HTK := Lib.hid (show tokens s.data.toList j = ⟨j, 3, 0, 0, s.extract (j + 1) (j + 1 + m)⟩ :: tokens s.data.toList (j + (m + 2)) from by
           rw [tkn_leaf HD.out HNB.out.1 HNB.out.2.1 HNB.out.2.2 HTL.out]
           have e : s.extract (j + 1) (j + 1 + m) = ⟨((s.data.toList.drop (j + 1)).take m).toArray⟩ := by
             apply ByteArray.ext; apply Array.toList_inj.1; rw [sub_list]
           rw [e]; rfl)
         clear hm hml
         clear hq HTL HNB
         go_upto_region 17 with (fail)
         go_wp2_with (first
           | (go_at_call 117; refine (HX.out).mono ?_; rintro e w5 ⟨he, hf5⟩; unfold tkE at he; subst he; have HF5 := Lib.hid hf5; have hb5 := (Bk.new wr 181 (tkA ⟨j, 6, 0, j, ⟨#[]⟩⟩)).fr hf5; have HB5 := Lib.hid hb5; have HSZ5 := Lib.hid (show wr.heap.size < w5.heap.size from hb5.lt); obtain ⟨r0, r1, r2, r3, r4, q0, q1, q2, q3, q4⟩ := hb5.five; clear hf5 hb5)
           | (at_builtin; refine wpList_push_tok (by kernel_rfl) (.tmp 108) (.tmp 110) rfl w.heap.size u3 ts ⟨j, 3, 0, 0, s.extract (j + 1) (j + 1 + m)⟩ w5.heap.size rfl rfl (by exact ((HT.out.alloc _).fr HF5.out).wr (Wr.set5 w5 wr.heap.size _ _ _ _ _) (fun e => by have := (HT.out.lt _ e).2; omega) |>.alloc _) (by exact blkn _ _ (by simp) _ _) (by have := HLN.out; omega) (by have := HF.out.size; have := HSZ.out; have := HSZ5.out; simp; omega) ?_; intro v7 w7 HP7; have r1 : w7.cell? ⟨wr.heap.size, 1, none⟩ = some (.int .i64 3) := (HP7.out.bk (b := wr.heap.size) (Bk.alloc (HB5.out.set5 _ _ _ _ _) _) (fun e => by have := (HT.out.lt _ e).2; omega)).cell 1))
         go_roundw
         case rel => exact ⟨j + (m + 2), ts ++ [⟨j, 3, 0, 0, s.extract (j + 1) (j + 1 + m)⟩], by have := HNX.out; omega, by go_num, HP7.out.tok, HP7.out.fr w (((HF.out.alloc _).call HF5.out).set5 (by have := HSZ.out; omega) _ _ _ _ _ |>.alloc _) (Nat.le_refl _), snoc_tk HTS.out HTK.out, by have := HLN.out; have := HNX.out; simp; omega⟩
         case measure => have := HNX.out; simp [intOf]; omega
       · rw [hq] at HX HTL
         have HTK := Lib.hid (show tokens s.data.toList j = [⟨j, 6, 0, j + (m + 1), ⟨#[]⟩⟩] from tkn_bad HD.out HNB.out.1 HNB.out.2.1 HNB.out.2.2 HTL.out)
         clear hq HTL HNB
         go_upto_region 17 with (fail)
         go_wp2_with (first
           | (go_at_call 117; refine (HX.out).mono ?_; rintro e w5 ⟨he, hf5⟩; unfold tkE at he; subst he; have HF5 := Lib.hid hf5; have hb5 := (Bk.new wr 181 (tkA ⟨j, 6, 0, j, ⟨#[]⟩⟩)).fr hf5; have HB5 := Lib.hid hb5; have HSZ5 := Lib.hid (show wr.heap.size < w5.heap.size from hb5.lt); obtain ⟨r0, r1, r2, r3, r4, q0, q1, q2, q3, q4⟩ := hb5.five; clear hf5 hb5)
           | (at_builtin; refine wpList_push_tok (by kernel_rfl) (.tmp 108) (.tmp 110) rfl w.heap.size u3 ts ⟨j, 6, 0, j + (m + 1), ⟨#[]⟩⟩ w5.heap.size rfl rfl (by exact ((HT.out.alloc _).fr HF5.out).wr (Wr.set5 w5 wr.heap.size _ _ _ _ _) (fun e => by have := (HT.out.lt _ e).2; omega) |>.alloc _) (by exact blkn _ _ (by simp) _ _) (by have := HLN.out; omega) (by have := HF.out.size; have := HSZ.out; have := HSZ5.out; simp; omega) ?_; intro v7 w7 HP7; have r1 : w7.cell? ⟨wr.heap.size, 1, none⟩ = some (.int .i64 6) := (HP7.out.bk (b := wr.heap.size) (Bk.alloc (HB5.out.set5 _ _ _ _ _) _) (fun e => by have := (HT.out.lt _ e).2; omega)).cell 1))
         go_ret
         exact ⟨HP7.out.fr w (((HF.out.alloc _).call HF5.out).set5 (by have := HSZ.out; omega) _ _ _ _ _ |>.alloc _) (Nat.le_refl _), v7, rfl, last_tk HTS.out HTK.out ▸ HP7.out.tok⟩
       · rw [hq] at HX HTL
         have HTK := Lib.hid (show tokens s.data.toList j = [⟨j, 6, 0, j, ⟨#[]⟩⟩] from tkn_bad HD.out HNB.out.1 HNB.out.2.1 HNB.out.2.2 HTL.out)
         clear hq HTL HNB
         go_upto_region 17 with (fail)
         go_wp2_with (first
           | (go_at_call 117; refine (HX.out).mono ?_; rintro e w5 ⟨he, hf5⟩; unfold tkE at he; subst he; have HF5 := Lib.hid hf5; have hb5 := (Bk.new wr 181 (tkA ⟨j, 6, 0, j, ⟨#[]⟩⟩)).fr hf5; have HB5 := Lib.hid hb5; have HSZ5 := Lib.hid (show wr.heap.size < w5.heap.size from hb5.lt); obtain ⟨r0, r1, r2, r3, r4, q0, q1, q2, q3, q4⟩ := hb5.five; clear hf5 hb5)
           | (at_builtin; refine wpList_push_tok (by kernel_rfl) (.tmp 108) (.tmp 110) rfl w.heap.size u3 ts ⟨j, 6, 0, j, ⟨#[]⟩⟩ w5.heap.size rfl rfl (by exact ((HT.out.alloc _).fr HF5.out).wr (Wr.set5 w5 wr.heap.size _ _ _ _ _) (fun e => by have := (HT.out.lt _ e).2; omega) |>.alloc _) (by exact blkn _ _ (by simp) _ _) (by have := HLN.out; omega) (by have := HF.out.size; have := HSZ.out; have := HSZ5.out; simp; omega) ?_; intro v7 w7 HP7; have r1 : w7.cell? ⟨wr.heap.size, 1, none⟩ = some (.int .i64 6) := (HP7.out.bk (b := wr.heap.size) (Bk.alloc (HB5.out.set5 _ _ _ _ _) _) (fun e => by have := (HT.out.lt _ e).2; omega)).cell 1))
         go_ret
         exact ⟨HP7.out.fr w (((HF.out.alloc _).call HF5.out).set5 (by have := HSZ.out; omega) _ _ _ _ _ |>.alloc _) (Nat.le_refl _), v7, rfl, last_tk HTS.out HTK.out ▸ HP7.out.tok⟩
     have b32 : ((s[j].toNat : Int) == 32) = false := by rw [beq_eq_false_iff_ne]; omega
     have b10 : ((s[j].toNat : Int) == 10) = false := by rw [beq_eq_false_iff_ne]; omega
     have b59 : ((s[j].toNat : Int) == 59) = false := by rw [beq_eq_false_iff_ne]; omega
     have b40 : ((s[j].toNat : Int) == 40) = false := by rw [beq_eq_false_iff_ne]; omega
     have b41 : ((s[j].toNat : Int) == 41) = false := by rw [beq_eq_false_iff_ne]; omega
     have b34 : ((s[j].toNat : Int) == 34) = false := by rw [beq_eq_false_iff_ne]; omega
     have HNB := Lib.hid (show Nb s[j] ∧ s[j].toNat ≠ 41 ∧ s[j].toNat ≠ 40 ∧ s[j].toNat ≠ 34 from ⟨⟨by omega, by omega⟩, by omega, by omega, by omega⟩)
     clear h32 h10 h59 h40 h41 h34
     cases hin : inB s[j]
     · have HTK := Lib.hid (show tokens s.data.toList j = [⟨j, 6, 0, j, ⟨#[]⟩⟩] from tkn_bad HD.out HNB.out.1 HNB.out.2.1 HNB.out.2.2.1 (leaf_no HNB.out.2.2.2 hin))
       have hI := in_any s[j]
       rw [hin] at hI
       have HI := Lib.hid hI
       clear hI hin
       go_upto_region 17 with (fail)
       go_wp2_with (first
         | (go_at_call 118; refine (HI.out _).mono ?_; rintro e w' ⟨rfl, rfl⟩)
         | (at_builtin; refine wpList_push_tok (by kernel_rfl) (.tmp 108) (.tmp 110) rfl w.heap.size u3 ts ⟨j, 6, 0, j, ⟨#[]⟩⟩ (wr.heap.size + 1) rfl rfl (by repeat (first | exact HT.out | apply Tok.alloc)) (by exact blkn _ _ (by simp) _ _) (by have := HLN.out; omega) (by have := HF.out.size; have := HSZ.out; simp; omega) ?_; intro v7 w7 HP7; have r1 : w7.cell? ⟨wr.heap.size, 1, none⟩ = some (.int .i64 6) := (HP7.out.bk (b := wr.heap.size) (Bk.alloc (Bk.new wr 181 (tkA ⟨j, 6, 0, j, ⟨#[]⟩⟩)) _) (fun e => by have := (HT.out.lt _ e).2; omega)).cell 1))
       go_ret
       exact ⟨HP7.out.fr w ((HF.out.alloc _).alloc _) (Nat.le_refl _), v7, rfl, last_tk HTS.out HTK.out ▸ HP7.out.tok⟩
     · have hI := in_any s[j]
       rw [hin] at hI
       have HI := Lib.hid hI
       have HIA := Lib.hid (fun c w => in_any c w)
       have HIN := Lib.hid hin
       have HRU := Lib.hid (show ruN (s[j] :: s.data.toList.drop (j + 1)) = ruN (s.data.toList.drop (j + 1)) + 1 from by rw [ruN, if_pos hin])
       clear hI hin
       go_wp2_with (go_at_call 118; refine (HI.out _).mono ?_; rintro e w' ⟨rfl, rfl⟩)
       go_loop [7] (fun i => RelRu s j i) (fun i => s.size - (intOf i).toNat)
       case atStart => exact ⟨j + 1, by omega, by omega, by go_num, by rw [HD.out, HRU.out]; omega⟩
       case round =>
         obtain ⟨k, hjk, hk, rfl, hq⟩ := hrel
         have HQ := Lib.hid hq
         clear hq HI
         have hgo : ∀ (X : Prop), X → X := fun _ h => h
         clear hgo
         by_cases hmore : ∃ h : k < s.size, inB s[k] = true
         · obtain ⟨hlk, hink⟩ := hmore
           have hI := HIA.out s[k]
           rw [hink] at hI
           have HI := Lib.hid hI
           have HX := Lib.hid (show j + ruN (s.data.toList.drop j) = (k + 1) + ruN (s.data.toList.drop (k + 1)) from by have := HQ.out; rw [drop_at s k hlk, ruN, if_pos hink] at this; omega)
           clear hI hink
           go_wp2_with (go_at_call 118; refine (HI.out _).mono ?_; rintro e w' ⟨rfl, rfl⟩)
           go_round
           case rel => exact ⟨k + 1, by omega, by omega, by go_num, HX.out⟩
           case measure => simp [intOf]; omega
         · have hz : ruN (s.data.toList.drop k) = 0 := by
             by_cases hlk : k < s.size
             · have : inB s[k] = false := by
                 cases h : inB s[k]
                 · rfl
                 · exact absurd ⟨hlk, h⟩ hmore
               rw [drop_at s k hlk, ruN, if_neg (by simp [this])]
             · obtain rfl : k = s.size := by omega
               rw [drop_all]; rfl
           have hrn : ruN (s[j] :: s.data.toList.drop (j + 1)) = k - j := by rw [← HD.out]; have := HQ.out; rw [hz] at this; omega
           have hwx : s.extract j k = ⟨((s[j] :: s.data.toList.drop (j + 1)).take (ruN (s[j] :: s.data.toList.drop (j + 1)))).toArray⟩ := by rw [hrn, ← HD.out]; exact cut_eq s j k (by omega) hk
           have hsl := slice_at s j k (by omega) hk
           have hk2 : (k : Int) ≤ 300000 := by omega
           have hjk2 : (j : Int) < (k : Int) := by omega
           have hxs : (s.extract j k).size = k - j := by simp; omega
           have HNX := Lib.hid (show j < k ∧ k ≤ s.size from ⟨hjk, hk⟩)
           have HEX := Lib.hid (show k < s.size → inB s[k]! = inB s[k]! from fun _ => rfl)
           clear HEX
           have hnot : ∀ h : k < s.size, inB s[k] = false := fun h => by
             cases h' : inB s[k]
             · rfl
             · exact absurd ⟨h, h'⟩ hmore
           have HKE := Lib.hid (show j + (k - j) = k from by omega)
           have HIK := Lib.hid (show ∀ (h : k < s.size) (w : World), Calls Tryz.prog 118 #[.int .u8 (s[k].toNat : Int)] w fun e w' => e = .returned (.bool false) ∧ w = w' from fun h w => by have := HIA.out s[k] w; rwa [hnot h] at this)
           clear hmore hz hnot HQ HIA
           by_cases hnu : nuB s[j] = true
           · have hnum := (number_any (s.extract j k) · (by rw [hxs]; omega) (by rw [hxs]; omega))
             rcases hn : numL (s.extract j k).data.toList with _ | n
             · rw [hn] at hnum
               have HTK := Lib.hid (show tokens s.data.toList j = [⟨j, 6, 0, j, ⟨#[]⟩⟩] from tkn_bad HD.out HNB.out.1 HNB.out.2.1 HNB.out.2.2.1 (leaf_nonum HNB.out.2.2.2 HIN.out hnu (by rw [hwx] at hn; exact hn)))
               have HNM := Lib.hid hnum
               have hnu2 : (s[j].toNat : Int) = 45 ∨ (48 ≤ (s[j].toNat : Int) ∧ (s[j].toNat : Int) ≤ 57) := by unfold nuB at hnu; simp at hnu; omega
               clear hnu hn hnum hwx hxs hrn
               rcases hnu2 with h45 | ⟨h48, h57⟩
               · have b45 : ((s[j].toNat : Int) == 45) = true := by rw [h45]; rfl
                 clear h45
                 by_cases hlk : k < s.size
                 · have HIK2 := Lib.hid (HIK.out hlk)
                   clear HIK
                   go_upto_region 21 with (first | (go_at_call 118; refine (HIK2.out _).mono ?_; rintro e w' ⟨rfl, rfl⟩))
                   go_wp2_with (first
                     | (go_at_call 118; refine (HIK2.out _).mono ?_; rintro e w' ⟨rfl, rfl⟩)
                     | (go_at_call 119; refine (HNM.out _).mono ?_; rintro e w' ⟨he, rfl⟩; unfold numE at he; simp only at he; subst he)
                     | (at_builtin; refine wpList_push_tok (by kernel_rfl) (.tmp 108) (.tmp 110) rfl w.heap.size u3 ts ⟨j, 6, 0, j, ⟨#[]⟩⟩ (wr.heap.size + 1) rfl rfl (by repeat (first | exact HT.out | apply Tok.alloc)) (by exact blkn _ _ (by simp) _ _) (by have := HLN.out; omega) (by have := HF.out.size; have := HSZ.out; simp; omega) ?_; intro v7 w7 HP7; have r1 : w7.cell? ⟨wr.heap.size, 1, none⟩ = some (.int .i64 6) := (HP7.out.bk (b := wr.heap.size) (Bk.alloc (Bk.new wr 181 (tkA ⟨j, 6, 0, j, ⟨#[]⟩⟩)) _) (fun e => by have := (HT.out.lt _ e).2; omega)).cell 1))
                   go_ret
                   exact ⟨HP7.out.fr w ((HF.out.alloc _).alloc _) (Nat.le_refl _), v7, rfl, last_tk HTS.out HTK.out ▸ HP7.out.tok⟩
                 · clear HIK
                   have HIK2 := Lib.hid trivial
                   go_upto_region 21 with (first | (go_at_call 118; refine (HIK2.out _).mono ?_; rintro e w' ⟨rfl, rfl⟩))
                   go_wp2_with (first
                     | (go_at_call 118; refine (HIK2.out _).mono ?_; rintro e w' ⟨rfl, rfl⟩)
                     | (go_at_call 119; refine (HNM.out _).mono ?_; rintro e w' ⟨he, rfl⟩; unfold numE at he; simp only at he; subst he)
                     | (at_builtin; refine wpList_push_tok (by kernel_rfl) (.tmp 108) (.tmp 110) rfl w.heap.size u3 ts ⟨j, 6, 0, j, ⟨#[]⟩⟩ (wr.heap.size + 1) rfl rfl (by repeat (first | exact HT.out | apply Tok.alloc)) (by exact blkn _ _ (by simp) _ _) (by have := HLN.out; omega) (by have := HF.out.size; have := HSZ.out; simp; omega) ?_; intro v7 w7 HP7; have r1 : w7.cell? ⟨wr.heap.size, 1, none⟩ = some (.int .i64 6) := (HP7.out.bk (b := wr.heap.size) (Bk.alloc (Bk.new wr 181 (tkA ⟨j, 6, 0, j, ⟨#[]⟩⟩)) _) (fun e => by have := (HT.out.lt _ e).2; omega)).cell 1))
                   go_ret
                   exact ⟨HP7.out.fr w ((HF.out.alloc _).alloc _) (Nat.le_refl _), v7, rfl, last_tk HTS.out HTK.out ▸ HP7.out.tok⟩
               · have b45 : ((s[j].toNat : Int) == 45) = false := by rw [beq_eq_false_iff_ne]; omega
                 by_cases hlk : k < s.size
                 · have HIK2 := Lib.hid (HIK.out hlk)
                   clear HIK
                   go_upto_region 21 with (first | (go_at_call 118; refine (HIK2.out _).mono ?_; rintro e w' ⟨rfl, rfl⟩))
                   go_wp2_with (first
                     | (go_at_call 118; refine (HIK2.out _).mono ?_; rintro e w' ⟨rfl, rfl⟩)
                     | (go_at_call 119; refine (HNM.out _).mono ?_; rintro e w' ⟨he, rfl⟩; unfold numE at he; simp only at he; subst he)
                     | (at_builtin; refine wpList_push_tok (by kernel_rfl) (.tmp 108) (.tmp 110) rfl w.heap.size u3 ts ⟨j, 6, 0, j, ⟨#[]⟩⟩ (wr.heap.size + 1) rfl rfl (by repeat (first | exact HT.out | apply Tok.alloc)) (by exact blkn _ _ (by simp) _ _) (by have := HLN.out; omega) (by have := HF.out.size; have := HSZ.out; simp; omega) ?_; intro v7 w7 HP7; have r1 : w7.cell? ⟨wr.heap.size, 1, none⟩ = some (.int .i64 6) := (HP7.out.bk (b := wr.heap.size) (Bk.alloc (Bk.new wr 181 (tkA ⟨j, 6, 0, j, ⟨#[]⟩⟩)) _) (fun e => by have := (HT.out.lt _ e).2; omega)).cell 1))
                   go_ret
                   exact ⟨HP7.out.fr w ((HF.out.alloc _).alloc _) (Nat.le_refl _), v7, rfl, last_tk HTS.out HTK.out ▸ HP7.out.tok⟩
                 · clear HIK
                   have HIK2 := Lib.hid trivial
                   go_upto_region 21 with (first | (go_at_call 118; refine (HIK2.out _).mono ?_; rintro e w' ⟨rfl, rfl⟩))
                   go_wp2_with (first
                     | (go_at_call 118; refine (HIK2.out _).mono ?_; rintro e w' ⟨rfl, rfl⟩)
                     | (go_at_call 119; refine (HNM.out _).mono ?_; rintro e w' ⟨he, rfl⟩; unfold numE at he; simp only at he; subst he)
                     | (at_builtin; refine wpList_push_tok (by kernel_rfl) (.tmp 108) (.tmp 110) rfl w.heap.size u3 ts ⟨j, 6, 0, j, ⟨#[]⟩⟩ (wr.heap.size + 1) rfl rfl (by repeat (first | exact HT.out | apply Tok.alloc)) (by exact blkn _ _ (by simp) _ _) (by have := HLN.out; omega) (by have := HF.out.size; have := HSZ.out; simp; omega) ?_; intro v7 w7 HP7; have r1 : w7.cell? ⟨wr.heap.size, 1, none⟩ = some (.int .i64 6) := (HP7.out.bk (b := wr.heap.size) (Bk.alloc (Bk.new wr 181 (tkA ⟨j, 6, 0, j, ⟨#[]⟩⟩)) _) (fun e => by have := (HT.out.lt _ e).2; omega)).cell 1))
                   go_ret
                   exact ⟨HP7.out.fr w ((HF.out.alloc _).alloc _) (Nat.le_refl _), v7, rfl, last_tk HTS.out HTK.out ▸ HP7.out.tok⟩
             · rw [hn] at hnum
               have HTK := Lib.hid (show tokens s.data.toList j = ⟨j, 2, n, 0, ⟨#[]⟩⟩ :: tokens s.data.toList k from by
                 rw [tkn_leaf HD.out HNB.out.1 HNB.out.2.1 HNB.out.2.2.1 (leaf_num HNB.out.2.2.2 HIN.out hnu (by rw [hwx] at hn; exact hn)), hrn, HKE.out]; rfl)
               have HNM := Lib.hid hnum
               have hnu2 : (s[j].toNat : Int) = 45 ∨ (48 ≤ (s[j].toNat : Int) ∧ (s[j].toNat : Int) ≤ 57) := by unfold nuB at hnu; simp at hnu; omega
               clear hnu hn hnum hwx hxs hrn
               rcases hnu2 with h45 | ⟨h48, h57⟩
               · have b45 : ((s[j].toNat : Int) == 45) = true := by rw [h45]; rfl
                 clear h45
                 by_cases hlk : k < s.size
                 · have HIK2 := Lib.hid (HIK.out hlk)
                   clear HIK
                   go_upto_region 21 with (first | (go_at_call 118; refine (HIK2.out _).mono ?_; rintro e w' ⟨rfl, rfl⟩))
                   go_wp2_with (first
                     | (go_at_call 118; refine (HIK2.out _).mono ?_; rintro e w' ⟨rfl, rfl⟩)
                     | (go_at_call 119; refine (HNM.out _).mono ?_; rintro e w' ⟨he, rfl⟩; unfold numE at he; simp only at he; subst he)
                     | (at_builtin; refine wpList_push_tok (by kernel_rfl) (.tmp 108) (.tmp 110) rfl w.heap.size u3 ts ⟨j, 2, n, 0, ⟨#[]⟩⟩ (wr.heap.size + 1) rfl rfl (by repeat (first | exact HT.out | apply Tok.alloc)) (by exact blkn _ _ (by simp) _ _) (by have := HLN.out; omega) (by have := HF.out.size; have := HSZ.out; simp; omega) ?_; intro v7 w7 HP7; have r1 : w7.cell? ⟨wr.heap.size, 1, none⟩ = some (.int .i64 2) := (HP7.out.bk (b := wr.heap.size) (Bk.alloc (Bk.new wr 181 (tkA ⟨j, 2, n, 0, ⟨#[]⟩⟩)) _) (fun e => by have := (HT.out.lt _ e).2; omega)).cell 1))
                   go_roundw
                   case rel => exact ⟨k, ts ++ [⟨j, 2, n, 0, ⟨#[]⟩⟩], by have := HNX.out; omega, by go_num, HP7.out.tok, HP7.out.fr w ((HF.out.alloc _).alloc _) (Nat.le_refl _), snoc_tk HTS.out HTK.out, by have := HLN.out; have := HNX.out; simp; omega⟩
                   case measure => have := HNX.out; simp [intOf]; omega
                 · clear HIK
                   have HIK2 := Lib.hid trivial
                   go_upto_region 21 with (first | (go_at_call 118; refine (HIK2.out _).mono ?_; rintro e w' ⟨rfl, rfl⟩))
                   go_wp2_with (first
                     | (go_at_call 118; refine (HIK2.out _).mono ?_; rintro e w' ⟨rfl, rfl⟩)
                     | (go_at_call 119; refine (HNM.out _).mono ?_; rintro e w' ⟨he, rfl⟩; unfold numE at he; simp only at he; subst he)
                     | (at_builtin; refine wpList_push_tok (by kernel_rfl) (.tmp 108) (.tmp 110) rfl w.heap.size u3 ts ⟨j, 2, n, 0, ⟨#[]⟩⟩ (wr.heap.size + 1) rfl rfl (by repeat (first | exact HT.out | apply Tok.alloc)) (by exact blkn _ _ (by simp) _ _) (by have := HLN.out; omega) (by have := HF.out.size; have := HSZ.out; simp; omega) ?_; intro v7 w7 HP7; have r1 : w7.cell? ⟨wr.heap.size, 1, none⟩ = some (.int .i64 2) := (HP7.out.bk (b := wr.heap.size) (Bk.alloc (Bk.new wr 181 (tkA ⟨j, 2, n, 0, ⟨#[]⟩⟩)) _) (fun e => by have := (HT.out.lt _ e).2; omega)).cell 1))
                   go_roundw
                   case rel => exact ⟨k, ts ++ [⟨j, 2, n, 0, ⟨#[]⟩⟩], by have := HNX.out; omega, by go_num, HP7.out.tok, HP7.out.fr w ((HF.out.alloc _).alloc _) (Nat.le_refl _), snoc_tk HTS.out HTK.out, by have := HLN.out; have := HNX.out; simp; omega⟩
                   case measure => have := HNX.out; simp [intOf]; omega
               · have b45 : ((s[j].toNat : Int) == 45) = false := by rw [beq_eq_false_iff_ne]; omega
                 by_cases hlk : k < s.size
                 · have HIK2 := Lib.hid (HIK.out hlk)
                   clear HIK
                   go_upto_region 21 with (first | (go_at_call 118; refine (HIK2.out _).mono ?_; rintro e w' ⟨rfl, rfl⟩))
                   go_wp2_with (first
                     | (go_at_call 118; refine (HIK2.out _).mono ?_; rintro e w' ⟨rfl, rfl⟩)
                     | (go_at_call 119; refine (HNM.out _).mono ?_; rintro e w' ⟨he, rfl⟩; unfold numE at he; simp only at he; subst he)
                     | (at_builtin; refine wpList_push_tok (by kernel_rfl) (.tmp 108) (.tmp 110) rfl w.heap.size u3 ts ⟨j, 2, n, 0, ⟨#[]⟩⟩ (wr.heap.size + 1) rfl rfl (by repeat (first | exact HT.out | apply Tok.alloc)) (by exact blkn _ _ (by simp) _ _) (by have := HLN.out; omega) (by have := HF.out.size; have := HSZ.out; simp; omega) ?_; intro v7 w7 HP7; have r1 : w7.cell? ⟨wr.heap.size, 1, none⟩ = some (.int .i64 2) := (HP7.out.bk (b := wr.heap.size) (Bk.alloc (Bk.new wr 181 (tkA ⟨j, 2, n, 0, ⟨#[]⟩⟩)) _) (fun e => by have := (HT.out.lt _ e).2; omega)).cell 1))
                   go_roundw
                   case rel => exact ⟨k, ts ++ [⟨j, 2, n, 0, ⟨#[]⟩⟩], by have := HNX.out; omega, by go_num, HP7.out.tok, HP7.out.fr w ((HF.out.alloc _).alloc _) (Nat.le_refl _), snoc_tk HTS.out HTK.out, by have := HLN.out; have := HNX.out; simp; omega⟩
                   case measure => have := HNX.out; simp [intOf]; omega
                 · clear HIK
                   have HIK2 := Lib.hid trivial
                   go_upto_region 21 with (first | (go_at_call 118; refine (HIK2.out _).mono ?_; rintro e w' ⟨rfl, rfl⟩))
                   go_wp2_with (first
                     | (go_at_call 118; refine (HIK2.out _).mono ?_; rintro e w' ⟨rfl, rfl⟩)
                     | (go_at_call 119; refine (HNM.out _).mono ?_; rintro e w' ⟨he, rfl⟩; unfold numE at he; simp only at he; subst he)
                     | (at_builtin; refine wpList_push_tok (by kernel_rfl) (.tmp 108) (.tmp 110) rfl w.heap.size u3 ts ⟨j, 2, n, 0, ⟨#[]⟩⟩ (wr.heap.size + 1) rfl rfl (by repeat (first | exact HT.out | apply Tok.alloc)) (by exact blkn _ _ (by simp) _ _) (by have := HLN.out; omega) (by have := HF.out.size; have := HSZ.out; simp; omega) ?_; intro v7 w7 HP7; have r1 : w7.cell? ⟨wr.heap.size, 1, none⟩ = some (.int .i64 2) := (HP7.out.bk (b := wr.heap.size) (Bk.alloc (Bk.new wr 181 (tkA ⟨j, 2, n, 0, ⟨#[]⟩⟩)) _) (fun e => by have := (HT.out.lt _ e).2; omega)).cell 1))
                   go_roundw
                   case rel => exact ⟨k, ts ++ [⟨j, 2, n, 0, ⟨#[]⟩⟩], by have := HNX.out; omega, by go_num, HP7.out.tok, HP7.out.fr w ((HF.out.alloc _).alloc _) (Nat.le_refl _), snoc_tk HTS.out HTK.out, by have := HLN.out; have := HNX.out; simp; omega⟩
                   case measure => have := HNX.out; simp [intOf]; omega
           · have hnu1 : nuB s[j] = false := by simpa using hnu
             obtain ⟨wd, hwd⟩ : ∃ wd, s.extract j k = wd := ⟨_, rfl⟩
             rw [hwd] at hsl
             have HTK := Lib.hid (show tokens s.data.toList j = ⟨j, 1, 0, 0, wd⟩ :: tokens s.data.toList k from by
               rw [tkn_leaf HD.out HNB.out.1 HNB.out.2.1 HNB.out.2.2.1 (leaf_word HNB.out.2.2.2 HIN.out hnu1), ← hwd, hwx]
               rw [hrn, HKE.out]; rfl)
             have hnu2 : ¬ (s[j].toNat : Int) = 45 ∧ ((s[j].toNat : Int) < 48 ∨ 57 < (s[j].toNat : Int)) := by unfold nuB at hnu1; simp at hnu1; omega
             have b45 : ((s[j].toNat : Int) == 45) = false := by rw [beq_eq_false_iff_ne]; omega
             obtain ⟨_, hnu3⟩ := hnu2
             clear hnu hnu1 hwx hxs hrn hwd
             rcases hnu3 with h48 | h57
             · have d48 : decide ((48 : Int) ≤ (s[j].toNat : Int)) = false := by rw [decide_eq_false_iff_not]; omega
               clear h48
               by_cases hlk : k < s.size
               · have HIK2 := Lib.hid (HIK.out hlk)
                 clear HIK
                 go_upto_region 21 with (first | (go_at_call 118; refine (HIK2.out _).mono ?_; rintro e w' ⟨rfl, rfl⟩))
                 go_wp2_with (first
                   | (go_at_call 118; refine (HIK2.out _).mono ?_; rintro e w' ⟨rfl, rfl⟩)
                   | (at_builtin; refine wpList_push_tok (by kernel_rfl) (.tmp 108) (.tmp 110) rfl w.heap.size u3 ts ⟨j, 1, 0, 0, wd⟩ (wr.heap.size + 1) rfl rfl (by repeat (first | exact HT.out | apply Tok.alloc)) (by exact blkn _ _ (by simp) _ _) (by have := HLN.out; omega) (by have := HF.out.size; have := HSZ.out; simp; omega) ?_; intro v7 w7 HP7; have r1 : w7.cell? ⟨wr.heap.size, 1, none⟩ = some (.int .i64 1) := (HP7.out.bk (b := wr.heap.size) (Bk.alloc (Bk.new wr 181 (tkA ⟨j, 1, 0, 0, wd⟩)) _) (fun e => by have := (HT.out.lt _ e).2; omega)).cell 1))
                 go_roundw
                 case rel => exact ⟨k, ts ++ [⟨j, 1, 0, 0, wd⟩], by have := HNX.out; omega, by go_num, HP7.out.tok, HP7.out.fr w ((HF.out.alloc _).alloc _) (Nat.le_refl _), snoc_tk HTS.out HTK.out, by have := HLN.out; have := HNX.out; simp; omega⟩
                 case measure => have := HNX.out; simp [intOf]; omega
               · clear HIK
                 have HIK2 := Lib.hid trivial
                 go_upto_region 21 with (first | (go_at_call 118; refine (HIK2.out _).mono ?_; rintro e w' ⟨rfl, rfl⟩))
                 go_wp2_with (first
                   | (go_at_call 118; refine (HIK2.out _).mono ?_; rintro e w' ⟨rfl, rfl⟩)
                   | (at_builtin; refine wpList_push_tok (by kernel_rfl) (.tmp 108) (.tmp 110) rfl w.heap.size u3 ts ⟨j, 1, 0, 0, wd⟩ (wr.heap.size + 1) rfl rfl (by repeat (first | exact HT.out | apply Tok.alloc)) (by exact blkn _ _ (by simp) _ _) (by have := HLN.out; omega) (by have := HF.out.size; have := HSZ.out; simp; omega) ?_; intro v7 w7 HP7; have r1 : w7.cell? ⟨wr.heap.size, 1, none⟩ = some (.int .i64 1) := (HP7.out.bk (b := wr.heap.size) (Bk.alloc (Bk.new wr 181 (tkA ⟨j, 1, 0, 0, wd⟩)) _) (fun e => by have := (HT.out.lt _ e).2; omega)).cell 1))
                 go_roundw
                 case rel => exact ⟨k, ts ++ [⟨j, 1, 0, 0, wd⟩], by have := HNX.out; omega, by go_num, HP7.out.tok, HP7.out.fr w ((HF.out.alloc _).alloc _) (Nat.le_refl _), snoc_tk HTS.out HTK.out, by have := HLN.out; have := HNX.out; simp; omega⟩
                 case measure => have := HNX.out; simp [intOf]; omega
             · have d48 : (48 : Int) ≤ (s[j].toNat : Int) := by omega
               have d57 : decide ((s[j].toNat : Int) ≤ (57 : Int)) = false := by rw [decide_eq_false_iff_not]; omega
               clear h57
               by_cases hlk : k < s.size
               · have HIK2 := Lib.hid (HIK.out hlk)
                 clear HIK
                 go_upto_region 21 with (first | (go_at_call 118; refine (HIK2.out _).mono ?_; rintro e w' ⟨rfl, rfl⟩))
                 go_wp2_with (first
                   | (go_at_call 118; refine (HIK2.out _).mono ?_; rintro e w' ⟨rfl, rfl⟩)
                   | (at_builtin; refine wpList_push_tok (by kernel_rfl) (.tmp 108) (.tmp 110) rfl w.heap.size u3 ts ⟨j, 1, 0, 0, wd⟩ (wr.heap.size + 1) rfl rfl (by repeat (first | exact HT.out | apply Tok.alloc)) (by exact blkn _ _ (by simp) _ _) (by have := HLN.out; omega) (by have := HF.out.size; have := HSZ.out; simp; omega) ?_; intro v7 w7 HP7; have r1 : w7.cell? ⟨wr.heap.size, 1, none⟩ = some (.int .i64 1) := (HP7.out.bk (b := wr.heap.size) (Bk.alloc (Bk.new wr 181 (tkA ⟨j, 1, 0, 0, wd⟩)) _) (fun e => by have := (HT.out.lt _ e).2; omega)).cell 1))
                 go_roundw
                 case rel => exact ⟨k, ts ++ [⟨j, 1, 0, 0, wd⟩], by have := HNX.out; omega, by go_num, HP7.out.tok, HP7.out.fr w ((HF.out.alloc _).alloc _) (Nat.le_refl _), snoc_tk HTS.out HTK.out, by have := HLN.out; have := HNX.out; simp; omega⟩
                 case measure => have := HNX.out; simp [intOf]; omega
               · clear HIK
                 have HIK2 := Lib.hid trivial
                 go_upto_region 21 with (first | (go_at_call 118; refine (HIK2.out _).mono ?_; rintro e w' ⟨rfl, rfl⟩))
                 go_wp2_with (first
                   | (go_at_call 118; refine (HIK2.out _).mono ?_; rintro e w' ⟨rfl, rfl⟩)
                   | (at_builtin; refine wpList_push_tok (by kernel_rfl) (.tmp 108) (.tmp 110) rfl w.heap.size u3 ts ⟨j, 1, 0, 0, wd⟩ (wr.heap.size + 1) rfl rfl (by repeat (first | exact HT.out | apply Tok.alloc)) (by exact blkn _ _ (by simp) _ _) (by have := HLN.out; omega) (by have := HF.out.size; have := HSZ.out; simp; omega) ?_; intro v7 w7 HP7; have r1 : w7.cell? ⟨wr.heap.size, 1, none⟩ = some (.int .i64 1) := (HP7.out.bk (b := wr.heap.size) (Bk.alloc (Bk.new wr 181 (tkA ⟨j, 1, 0, 0, wd⟩)) _) (fun e => by have := (HT.out.lt _ e).2; omega)).cell 1))
                 go_roundw
                 case rel => exact ⟨k, ts ++ [⟨j, 1, 0, 0, wd⟩], by have := HNX.out; omega, by go_num, HP7.out.tok, HP7.out.fr w ((HF.out.alloc _).alloc _) (Nat.le_refl _), snoc_tk HTS.out HTK.out, by have := HLN.out; have := HNX.out; simp; omega⟩
                 case measure => have := HNX.out; simp [intOf]; omega
   · obtain rfl : j = s.size := by omega
     go_wp2
     go_ret
     exact ⟨HF.out, _, rfl, (show ts = tokens s.data.toList 0 from by have h := HTS.out; rw [show s.size = s.data.toList.length by simp, tokens_end, List.append_nil] at h; exact h) ▸ HT.out⟩
end Go.Proofs.YtdipnhghdajplaaGreatDoor
