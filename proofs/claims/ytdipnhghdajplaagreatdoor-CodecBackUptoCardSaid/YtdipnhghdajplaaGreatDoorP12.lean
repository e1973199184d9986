/- The document's Parse. -/
import Derived.Test.YtdipnhghdajplaaGreatDoorP11
import Derived.Deep.QuietTactic
import Derived.BigQuiet
import Derived.Deep.RegionHeld3
import Derived.Deep.RegionLaw
import Derived.Deep.AppendLies
import Derived.Deep.DeepCutAuto
import Derived.Deep.CutBlock
import Derived.IntWalk
namespace Go.Proofs.YtdipnhghdajplaaGreatDoor
open Go.RowKit
set_option linter.unusedSimpArgs false
set_option linter.unusedVariables false
theorem infoSl : (Tryz.prog.info? 138).map (fun i => (i.zero, i.size, i.bytes)) = some (some (.slice none 0 0), 1, 24) := by kernel_rfl
theorem infoTr : (Tryz.prog.info? 144).map (fun i => (i.zero, i.size, i.bytes)) = some (some (.agg #[.int .i64 0, .string ⟨#[]⟩, .int .i64 0, .slice none 0 0]), 4, 56) := by kernel_rfl
theorem far3 {w : World} {b g sb k n : Nat} {u1 u4 u2 x0 x1 x2 x3 y : Value} (h1 : b ≠ g) (h2 : b ≠ sb) (c1 : w.cell? ⟨b, 1, none⟩ = some u1) (c4 : w.cell? ⟨b, 4, none⟩ = some u4) (c2 : w.cell? ⟨b, 2, none⟩ = some u2) :
   ((put4 w g n x0 x1 x2 x3).cell? ⟨b, 1, none⟩ = some u1 ∧ (put4 w g n x0 x1 x2 x3).cell? ⟨b, 4, none⟩ = some u4 ∧ (put4 w g n x0 x1 x2 x3).cell? ⟨b, 2, none⟩ = some u2) ∧
   (((put4 w g n x0 x1 x2 x3).setCell ⟨sb, k, none⟩ y).cell? ⟨b, 1, none⟩ = some u1 ∧ ((put4 w g n x0 x1 x2 x3).setCell ⟨sb, k, none⟩ y).cell? ⟨b, 4, none⟩ = some u4 ∧ ((put4 w g n x0 x1 x2 x3).setCell ⟨sb, k, none⟩ y).cell? ⟨b, 2, none⟩ = some u2) ∧
   ((w.setCell ⟨sb, k, none⟩ y).cell? ⟨b, 1, none⟩ = some u1 ∧ (w.setCell ⟨sb, k, none⟩ y).cell? ⟨b, 4, none⟩ = some u4 ∧ (w.setCell ⟨sb, k, none⟩ y).cell? ⟨b, 2, none⟩ = some u2) ∧
   ((put4 (w.setCell ⟨sb, k, none⟩ y) g n x0 x1 x2 x3).cell? ⟨b, 1, none⟩ = some u1 ∧ (put4 (w.setCell ⟨sb, k, none⟩ y) g n x0 x1 x2 x3).cell? ⟨b, 4, none⟩ = some u4 ∧ (put4 (w.setCell ⟨sb, k, none⟩ y) g n x0 x1 x2 x3).cell? ⟨b, 2, none⟩ = some u2) := by
 have e1 := heap_put4 w g n b h1 x0 x1 x2 x3
 have e2 : ((put4 w g n x0 x1 x2 x3).setCell ⟨sb, k, none⟩ y).heap[b]? = w.heap[b]? := (Below.heap_setCell _ _ _ _ h2).trans e1
 have e3 : (w.setCell ⟨sb, k, none⟩ y).heap[b]? = w.heap[b]? := Below.heap_setCell _ _ _ _ h2
 have e4 := (heap_put4 (w.setCell ⟨sb, k, none⟩ y) g n b h1 x0 x1 x2 x3).trans e3
 exact ⟨⟨(cell_of_heap e1).trans c1, (cell_of_heap e1).trans c4, (cell_of_heap e1).trans c2⟩, ⟨(cell_of_heap e2).trans c1, (cell_of_heap e2).trans c4, (cell_of_heap e2).trans c2⟩, ⟨(cell_of_heap e3).trans c1, (cell_of_heap e3).trans c4, (cell_of_heap e3).trans c2⟩, ⟨(cell_of_heap e4).trans c1, (cell_of_heap e4).trans c4, (cell_of_heap e4).trans c2⟩⟩
def PzPost (s : ByteArray) (w : World) (e : Ending) (w' : World) : Prop := PsPost s w e w'
set_option maxHeartbeats 51200000 in
set_option maxRecDepth 100000 in
theorem refparse_any (s : ByteArray) (w : World) (hs : s.size ≤ 262144) :
   Calls Tryz.prog 55 #[.string s] w fun e w' => PzPost s w e w' := by
 have hs2 : decide ((262144 : Int) < (s.size : Int)) = false := by simp; omega
 have hs4 : (s.size : Int) ≤ 300000 := by omega
 have HS := Lib.hid hs
 have HTK := Lib.hid (fun w => tokens_any s w hs)
 clear hs
 go_enter Tryz.func55, Tryz.ntmps55
 go_wp2_with fail
 refine (HTK.out _).mono ?_
 rintro e w3 ⟨hf3, v, rfl, htk⟩
 obtain ⟨A, c, rfl, hrd, hA⟩ := htk.read
 have HF3 := Lib.hid hf3
 have HRD := Lib.hid hrd
 have HAL := Lib.hid hA
 have htl := toks_len (s.data.toList.length + 1 - 0) s.data.toList 0 (Nat.zero_le _)
 have HTL := Lib.hid (show (tokens s.data.toList 0).length ≤ s.size from by have := htl; simp at this; unfold tokens; simpa using this)
 have HRUN := Lib.hid (show pgo s.size (tokens s.data.toList 0) [[]] 0 = run s.data.toList 0 [[]] 0 from by have := pgo_run s.data.toList [[]] 0 (by simp); rwa [show s.data.toList.length = s.size by simp] at this)
 clear hf3 htk hrd hA htl
 generalize tokens s.data.toList 0 = ts at *
 have htl2 : (ts.length : Int) ≤ 300000 := by have := HTL.out; omega
 go_wp2_with fail
 go_loopw [5, 6, 19] (fun sv nv iv wr => RelP s w A ts sv nv iv wr) (fun _ _ iv _ => ts.length - (intOf iv).toNat)
 case atStart =>
   refine ⟨0, 0, w.heap.size + 1, 1, [[]], [(w.heap.size, 0)], fun b => ∃ a, A = some a ∧ a.block = b, rfl, rfl, rfl, ?_⟩
   refine ⟨Nat.zero_le _, ((Stk.start w).fr HF3.out).dead_more (fun b h => h.elim) ?_, fun a h => ⟨a, h, rfl⟩, HRD.out, (((Fr.refl w).alloc _).alloc _).call HF3.out, ?_, by simp, by simp [sumL], by omega, by simp, HRUN.out⟩
   · rintro b ⟨a, ha, rfl⟩
     have := HAL.out a ha
     simp at this ⊢
     omega
   · rintro b ⟨a, ha, rfl⟩
     have := HAL.out a ha
     simp at this
     omega
 case round =>
   obtain ⟨i, n, sb, sc, st, gs, D, rfl, rfl, rfl, hR⟩ := hrel
   have HR := Lib.hid hR
   by_cases hlt : i < ts.length
   · obtain ⟨gT, rfl, hgT, c0, c1, c2, c3, c4⟩ := hR.rd i hlt
     have HN := Lib.hid (hR.next hlt)
     have HI := Lib.hid (show i + 1 ≤ ts.length from hlt)
     have hsb := (own_cap hR.stk.row).2.2
     have hnn := hR.n_le
     have hst := hR.st_le
     have hi2 : (i : Int) ≤ 300000 := by omega
     have hn2 : (n : Int) ≤ 65536 := by omega
     generalize ts[i] = t at *
     obtain ⟨tp, tk, tn, tw, td⟩ := t
     simp only at c0 c1 c2 c3 c4
     rcases st with _ | ⟨cur, rest⟩
     · exact absurd rfl hR.ne
     rcases gs with _ | ⟨⟨g, c'⟩, gr⟩
     · exact hR.stk.lvs.elim
     have hst2 : (rest.length : Int) ≤ 32 := by simp at hst; omega
     clear hst hR
     by_cases h6 : tk = 6
     · subst h6
       have HE := Lib.hid ((pgo6 rfl).symm.trans HN.out)
       go_wp2_with fail
       go_quiet (fail)
       go_wp2
       go_ret3
       exact ps_err (((HR.out.fr.alloc _).drewN _)) rfl HE.out.symm
     have b6 : (tk == 6) = false := by simpa using h6
     by_cases h5 : tk = 5
     · subst h5
       rcases rest with _ | ⟨par, rest⟩
       · have HE := Lib.hid ((pgo5_top rfl).symm.trans HN.out)
         go_wp2_with fail
         go_quiet (fail)
         go_wp2
         go_ret3
         exact ps_err (((HR.out.fr.alloc _).drewN _)) rfl HE.out.symm
       · rcases gr with _ | ⟨⟨g1, c1⟩, gr⟩
         · exact HR.out.stk.lvs.2.elim
         have HE := Lib.hid ((pgo5 rfl).symm.trans HN.out)
         have hst3 : (rest.length : Int) ≤ 32 := by simp at hst2; omega
         obtain ⟨i0, hi0, hz0, hz1, hz2⟩ := info_parts infoTr
         have hlen : par.length ≤ 65537 := by have := HR.out.sum; simp [sumL] at this; omega
         obtain ⟨hhl, hc1, hf1⟩ := HR.out.stk.headers
         have hP := HR.out.stk.pop.1
         obtain ⟨hhl2, hc2, hf2⟩ := hP.headers
         simp only [List.length_cons] at hc1 hf1
         obtain ⟨vs, hov, hfv⟩ := HR.out.stk.lvs.2.1
         have hgl := (own_cap hov).2.2
         have hgne : g1 ≠ sb := fun e => hP.one (by simp [e])
         have hcap : (rest.length : Int) + 1 + 1 ≤ (sc : Int) := by have := (own_cap HR.out.stk.row).1; simp at this; omega
         have b0 : ((rest.length : Int) + 1 == 0) = false := by rw [beq_eq_false_iff_ne]; omega
         have HOV := Lib.hid hov
         have HFV := Lib.hid hfv
         have HPR := Lib.hid hP.row
         clear hov hfv hhl hhl2 hst2 hP hf2
         have e0 := ((Fr.refl wr).alloc (.cells #[.int .i64 (tp : Int), .int .i64 5, .int .i64 tn, .int .i64 (tw : Int), .string td] 181)).get hc1
         have n0 : (0 : Int) ≤ (rest.length : Int) + 1 := by omega
         have n1 : (rest.length : Int) + 1 < (rest.length : Int) + 1 + 1 := by omega
         have n4 : (0 : Int) ≤ (rest.length : Int) := by omega
         have n5 : (rest.length : Int) < (rest.length : Int) + 1 := by omega
         have n2 : (0 : Int) ≤ (par.length : Int) := by omega
         have n3 : (par.length : Int) < (par.length : Int) + 1 := by omega
         have hwr : IntKind.i64.wrap (rest.length : Int) = (rest.length : Int) := IntWalk.i64_in _ (by omega)
         go_wp2_with fail
         go_region
         · go_wp2_with fail
           have HFX := Lib.hid (show Fr wr ((((wr.alloc (.cells #[.int .i64 (tp : Int), .int .i64 5, .int .i64 tn, .int .i64 (tw : Int), .string td] 181)).alloc (.cells #[.int .i64 4, .string ⟨#[]⟩, .int .i64 0, hd g cur.length c'] 144)).alloc (.cells #[.bool false] 4)).drew) from (((Fr.refl wr).alloc _).alloc _).alloc _ |>.drew)
           have HZX := Lib.hid (show ((((wr.alloc (.cells #[.int .i64 (tp : Int), .int .i64 5, .int .i64 tn, .int .i64 (tw : Int), .string td] 181)).alloc (.cells #[.int .i64 4, .string ⟨#[]⟩, .int .i64 0, hd g cur.length c'] 144)).alloc (.cells #[.bool false] 4)).drew).heap.size = wr.heap.size + 3 from by simp)
           have BX := (Bk.alloc (show Bk ((wr.alloc (.cells #[.int .i64 (tp : Int), .int .i64 5, .int .i64 tn, .int .i64 (tw : Int), .string td] 181)).alloc (.cells #[.int .i64 4, .string ⟨#[]⟩, .int .i64 0, hd g cur.length c'] 144)) (wr.heap.size + 1) 144 #[.int .i64 4, .string ⟨#[]⟩, .int .i64 0, hd g cur.length c'] from blkn _ _ (by simp) _ _) (.cells #[.bool false] 4))
           have t0 : ((((wr.alloc (.cells #[.int .i64 (tp : Int), .int .i64 5, .int .i64 tn, .int .i64 (tw : Int), .string td] 181)).alloc (.cells #[.int .i64 4, .string ⟨#[]⟩, .int .i64 0, hd g cur.length c'] 144)).alloc (.cells #[.bool false] 4)).drew).cell? ⟨wr.heap.size + 1, 0, none⟩ = some (.int .i64 4) := BX.cell 0
           have t1 : ((((wr.alloc (.cells #[.int .i64 (tp : Int), .int .i64 5, .int .i64 tn, .int .i64 (tw : Int), .string td] 181)).alloc (.cells #[.int .i64 4, .string ⟨#[]⟩, .int .i64 0, hd g cur.length c'] 144)).alloc (.cells #[.bool false] 4)).drew).cell? ⟨wr.heap.size + 1, 1, none⟩ = some (.string ⟨#[]⟩) := BX.cell 1
           have t2 : ((((wr.alloc (.cells #[.int .i64 (tp : Int), .int .i64 5, .int .i64 tn, .int .i64 (tw : Int), .string td] 181)).alloc (.cells #[.int .i64 4, .string ⟨#[]⟩, .int .i64 0, hd g cur.length c'] 144)).alloc (.cells #[.bool false] 4)).drew).cell? ⟨wr.heap.size + 1, 2, none⟩ = some (.int .i64 0) := BX.cell 2
           have t3 : ((((wr.alloc (.cells #[.int .i64 (tp : Int), .int .i64 5, .int .i64 tn, .int .i64 (tw : Int), .string td] 181)).alloc (.cells #[.int .i64 4, .string ⟨#[]⟩, .int .i64 0, hd g cur.length c'] 144)).alloc (.cells #[.bool false] 4)).drew).cell? ⟨wr.heap.size + 1, 3, none⟩ = some (hd g cur.length c') := BX.cell 3
           clear BX
           generalize ((((wr.alloc (.cells #[.int .i64 (tp : Int), .int .i64 5, .int .i64 tn, .int .i64 (tw : Int), .string td] 181)).alloc (.cells #[.int .i64 4, .string ⟨#[]⟩, .int .i64 0, hd g cur.length c'] 144)).alloc (.cells #[.bool false] 4)).drew) = X at *
           have e1 : X.cell? ⟨sb, rest.length, none⟩ = some (hd g1 par.length c1) := HFX.out.get hc2
           have e2 : (X.alloc (.cells #[.int .i64 4, .string ⟨#[]⟩, .int .i64 0, hd g cur.length c'] 144)).cell? ⟨sb, rest.length, none⟩ = some (hd g1 par.length c1) := (HFX.out.alloc _).get hc2
           have HOX := Lib.hid (own_heap HOV.out (HFX.out.block g1 hgl))
           refine wp_region_noPanic ?_
           refine wp_region_held_drew (S := (fun w' => w'.cell? ⟨wr.heap.size + 1, 0, none⟩ = some (.int .i64 4) ∧ w'.cell? ⟨wr.heap.size + 1, 1, none⟩ = some (.string ⟨#[]⟩) ∧ w'.cell? ⟨wr.heap.size + 1, 2, none⟩ = some (.int .i64 0) ∧ w'.cell? ⟨wr.heap.size + 1, 3, none⟩ = some (hd g cur.length c'))) (by kernel_rfl) (by go_keep) (fun hHeld => ?_)
           refine wpAnyH_take (i := 0) (oi := _) (v := ?v19) rfl (by kernel_rfl) (by kernel_rfl) (by kernel_rfl) (fun _ _ _ h => h) (Or.inl ⟨by rfl, ?hy19⟩) (by assumption) ?rest19
           case hy19 => (intro w hSw; (try dsimp only at hSw); go_simp; try with_reducible rfl)
           try simp only [Act.put, List.setIfInBounds_toArray, List.set_cons_zero, List.set_cons_succ]
           refine wpAnyH_take (i := 1) (oi := _) (v := ?v20) rfl (by kernel_rfl) (by kernel_rfl) (by kernel_rfl) (fun _ _ _ h => h) (Or.inl ⟨by rfl, ?hy20⟩) (by assumption) ?rest20
           case hy20 => (intro w hSw; (try dsimp only at hSw); go_simp; try with_reducible rfl)
           try simp only [Act.put, List.setIfInBounds_toArray, List.set_cons_zero, List.set_cons_succ]
           refine wpAnyH_take (i := 2) (oi := _) (v := ?v21) rfl (by kernel_rfl) (by kernel_rfl) (by kernel_rfl) (fun _ _ _ h => h) (Or.inl ⟨by rfl, ?hy21⟩) (by assumption) ?rest21
           case hy21 => (intro w hSw; (try dsimp only at hSw); go_simp; try with_reducible rfl)
           try simp only [Act.put, List.setIfInBounds_toArray, List.set_cons_zero, List.set_cons_succ]
           refine wpAnyH_take (i := 3) (oi := _) (v := ?v22) rfl (by kernel_rfl) (by kernel_rfl) (by kernel_rfl) (fun _ _ _ h => h) (Or.inl ⟨by rfl, ?hy22⟩) (by assumption) ?rest22
           case hy22 => (intro w hSw; (try dsimp only at hSw); go_simp; try with_reducible rfl)
           try simp only [Act.put, List.setIfInBounds_toArray, List.set_cons_zero, List.set_cons_succ]
           refine wpAnyH_take (i := 4) (oi := _) (v := ?v23) rfl (by kernel_rfl) (by kernel_rfl) (by kernel_rfl) (fun _ _ _ h => h) (Or.inl ⟨by rfl, ?hy23⟩) (by assumption) ?rest23
           case hy23 => (intro w hSw; (try dsimp only at hSw); go_simp; try with_reducible rfl)
           try simp only [Act.put, List.setIfInBounds_toArray, List.set_cons_zero, List.set_cons_succ]
           refine wpAnyH_take (i := 5) (oi := _) (v := ?v24) rfl (by kernel_rfl) (by kernel_rfl) (by kernel_rfl) (fun _ _ _ h => h) (Or.inl ⟨by rfl, ?hy24⟩) (by assumption) ?rest24
           case hy24 => (intro w hSw; (try dsimp only at hSw); go_simp; try with_reducible rfl)
           try simp only [Act.put, List.setIfInBounds_toArray, List.set_cons_zero, List.set_cons_succ]
           refine wpAnyH_take (i := 6) (oi := _) (v := ?v25) rfl (by kernel_rfl) (by kernel_rfl) (by kernel_rfl) (fun _ _ _ h => h) (Or.inl ⟨by rfl, ?hy25⟩) (by assumption) ?rest25
           case hy25 => (intro w hSw; (try dsimp only at hSw); go_simp; try with_reducible rfl)
           try simp only [Act.put, List.setIfInBounds_toArray, List.set_cons_zero, List.set_cons_succ]
           refine wpAnyH_take (i := 8) (oi := _) (v := ?v26) rfl (by kernel_rfl) (by kernel_rfl) (by kernel_rfl) (fun _ _ _ h => h) (Or.inl ⟨by rfl, ?hy26⟩) (by assumption) ?rest26
           case hy26 => (intro w hSw; (try dsimp only at hSw); go_simp; try with_reducible rfl)
           try simp only [Act.put, List.setIfInBounds_toArray, List.set_cons_zero, List.set_cons_succ]
           refine wpAnyH_ready (rs := [7, 9]) (by kernel_rfl) (by simp) ?_
           refine AllReadyH.cons (o := _) rfl (fun K hK => ?_) ?_
           · go_simp
             refine hK.out _ _ ?_ (fun hHeld => ?_)
             · go_keep
             clear hK K
             try simp only [Act.put, List.setIfInBounds_toArray, List.set_cons_zero, List.set_cons_succ]
             refine wpAnyH_ready (rs := [9]) (by kernel_rfl) (by simp) ?_
             refine AllReadyH.cons (o := _) rfl (fun K hK => ?_) ?_
             · go_simp
               refine hK.out _ _ ?_ (fun hHeld => ?_)
               · go_keep
               clear hK K
               try simp only [Act.put, List.setIfInBounds_toArray, List.set_cons_zero, List.set_cons_succ]
               refine wpAnyH_ready (rs := [10]) (by kernel_rfl) (by simp) ?_
               refine AllReadyH.cons (o := _) rfl (fun K hK => ?_) ?_
               · refine step_append_lies _ rfl (.tmp 74) (.tmp 76) 138 rfl w.heap.size 144 i0 _ 4 56 Tryz.underlying138 hi0 hz0 hz1 hz2 rfl (by omega) (hd g1 par.length c1) par.length vs (by rfl) ((HOX.out.alloc _).drew) ⟨X.heap.size, 0, none⟩ 1 1 [.int .i64 4, .string ⟨#[]⟩, .int .i64 0, hd g cur.length c'] (by rfl) (by rfl) (World.news_of_block (blkn _ _ (by simp) #[.int .i64 4, .string ⟨#[]⟩, .int .i64 0, hd g cur.length c'] 144)) (by simp [Value.oneCell']) (by omega) (by unfold maxLen; omega) (by omega) (by have := HR.out.fr.size; have := HFX.out.size; simp; omega) (X.heap.size + 1) (by simp) ?_
                 intro gg cap w7 hown1 hgrow hat hlt
                 have hat2 : gg = g1 ∨ gg = X.heap.size + 1 := by rcases hat with h | h; (have h' : some g1 = some gg := h; injection h' with h'; exact .inl h'.symm); exact .inr h
                 have hxs := HFX.out.size
                 have hne1 : gg ≠ sb := by rcases hat2 with h | h <;> omega
                 have hne3 : sb ≠ gg := hne1.symm
                 have hfrx : Fr wr ((X.alloc (.cells #[.int .i64 4, .string ⟨#[]⟩, .int .i64 0, hd g cur.length c'] 144)).drew) := (HFX.out.alloc _).drew
                 have HFW := Lib.hid (show Fr w w7 from Below.grown (HR.out.fr.call hfrx) hgrow (by have := HR.out.fr.size; simp; omega) (fun k hk => by have e' : some g1 = some k := hk; injection e' with e'; have := (own_cap HOV.out).2.1; omega))
                 have HKW := Lib.hid (show ∀ b, b < wr.heap.size → b ≠ g1 → w7.heap[b]? = wr.heap[b]? from fun b h1 h2 => (hgrow.block b (by simp; omega) (fun e => h2 (by have e' : some b = some g1 := e; injection e'))).trans (hfrx.block b h1))
                 have hsz7 : wr.heap.size ≤ w7.heap.size := by have := hgrow.size; simp at this; omega
                 have fz : w7.frozen? ⟨sb, rest.length, none⟩ = false := World.ownsRow.frozenAt (own_heap HPR.out (HKW.out sb (by omega) (fun e => hgne e.symm))) _
                 have cz : w7.cell? ⟨sb, rest.length, none⟩ = some (hd g1 par.length c1) := (cell_of_heap (HKW.out sb (by omega) (fun e => hgne e.symm))).trans hc2
                 have hbt : w7.heap[wr.heap.size + 1]? = X.heap[wr.heap.size + 1]? := (hgrow.block _ (by have := HZX.out; simp; omega) (fun e => by have e' : some (wr.heap.size + 1) = some g1 := e; injection e'; omega)).trans (((Fr.refl X).alloc _).drew.block _ (by have := HZX.out; omega))
                 have CZ := Lib.hid (show w7.cell? ⟨wr.heap.size + 1, 0, none⟩ = some (.int .i64 4) ∧ w7.cell? ⟨wr.heap.size + 1, 1, none⟩ = some (.string ⟨#[]⟩) ∧ w7.cell? ⟨wr.heap.size + 1, 2, none⟩ = some (.int .i64 0) ∧ w7.cell? ⟨wr.heap.size + 1, 3, none⟩ = some (hd g cur.length c') from ⟨(cell_of_heap hbt).trans t0, (cell_of_heap hbt).trans t1, (cell_of_heap hbt).trans t2, (cell_of_heap hbt).trans t3⟩)
                 have hbs : (w7.setCell ⟨sb, rest.length, none⟩ (hd gg (par.length + 1) cap)).heap[wr.heap.size + 1]? = w7.heap[wr.heap.size + 1]? := Below.heap_setCell _ _ _ _ (by simp; omega)
                 have CS := Lib.hid (show (w7.setCell ⟨sb, rest.length, none⟩ (hd gg (par.length + 1) cap)).cell? ⟨wr.heap.size + 1, 0, none⟩ = some (.int .i64 4) ∧ (w7.setCell ⟨sb, rest.length, none⟩ (hd gg (par.length + 1) cap)).cell? ⟨wr.heap.size + 1, 1, none⟩ = some (.string ⟨#[]⟩) ∧ (w7.setCell ⟨sb, rest.length, none⟩ (hd gg (par.length + 1) cap)).cell? ⟨wr.heap.size + 1, 2, none⟩ = some (.int .i64 0) ∧ (w7.setCell ⟨sb, rest.length, none⟩ (hd gg (par.length + 1) cap)).cell? ⟨wr.heap.size + 1, 3, none⟩ = some (hd g cur.length c') from ⟨(cell_of_heap hbs).trans CZ.out.1, (cell_of_heap hbs).trans CZ.out.2.1, (cell_of_heap hbs).trans CZ.out.2.2.1, (cell_of_heap hbs).trans CZ.out.2.2.2⟩)
                 have hgx : gg = g1 ∨ wr.heap.size ≤ gg := by rcases hat2 with h | h; exact .inl h; exact .inr (by omega)
                 have EN := end_one (w := w) (wr := wr) (sb := sb) (sc := sc) (k := rest.length) (g := g1) (gg := gg) (n := par.length) (cap := cap) hown1 HPR.out HKW.out hsz7 HFW.out hne1 hgne hgx
                 have R1 := Lib.hid (show RelP s w (some ⟨gT, 0, none⟩) ts (hd sb (rest.length + 1) sc) (.int .i64 (n : Int)) (.int .i64 ((i : Int) + 1)) (w7.setCell ⟨sb, rest.length, none⟩ (hd gg (par.length + 1) cap)) from ⟨i + 1, n, sb, sc, (par ++ [.node 4 ⟨#[]⟩ 0 cur]) :: rest, (gg, cap) :: gr, _, by go_num, by go_num, by simp, HR.out.cls HFV.out EN.row EN.stk EN.blk EN.size EN.gg EN.fr HI.out HE.out⟩)
                 clear hown1 hat hat2 hgrow hbt hbs hgx EN hfrx hsz7 hxs
                 refine hK.out _ _ ?_ (fun hHeld => ?_)
                 · first | with_reducible exact CZ.out | with_reducible exact CS.out | go_keep
                 clear hK K
                 try simp only [Act.put, List.setIfInBounds_toArray, List.set_cons_zero, List.set_cons_succ]
                 refine wpAnyH_take (i := 11) (oi := _) (v := ?v17) rfl (by kernel_rfl) (by kernel_rfl) (by kernel_rfl) (fun _ _ _ h => h) (Or.inl ⟨by rfl, ?hy17⟩) (by assumption) ?rest17
                 case hy17 => (intro w hSw; (try dsimp only at hSw); go_simp; try with_reducible rfl)
                 try simp only [Act.put, List.setIfInBounds_toArray, List.set_cons_zero, List.set_cons_succ]
                 refine wpAnyH_ready (rs := [12]) (by kernel_rfl) (by simp) ?_
                 refine AllReadyH.cons (o := _) rfl (fun K hK => ?_) ?_
                 · go_simp
                   refine hK.out _ _ ?_ (fun hHeld => ?_)
                   · first | with_reducible exact CZ.out | with_reducible exact CS.out | go_keep
                   clear hK K
                   try simp only [Act.put, List.setIfInBounds_toArray, List.set_cons_zero, List.set_cons_succ]
                   refine wpAnyH_done (by kernel_rfl) ?_ _
                   refine NoPanic.normal ?_
                   go_wp2
                   go_roundw
                   case rel => with_reducible exact R1.out
                   case measure => have := HI.out; simp [intOf]; omega
                 exact AllReadyH.nil
               exact AllReadyH.nil
             exact AllReadyH.nil
           refine AllReadyH.cons (o := _) rfl (fun K hK => ?_) ?_
           · go_simp
             refine hK.out _ _ ?_ (fun hHeld => ?_)
             · go_keep
             clear hK K
             try simp only [Act.put, List.setIfInBounds_toArray, List.set_cons_zero, List.set_cons_succ]
             refine wpAnyH_ready (rs := [7]) (by kernel_rfl) (by simp) ?_
             refine AllReadyH.cons (o := _) rfl (fun K hK => ?_) ?_
             · go_simp
               refine hK.out _ _ ?_ (fun hHeld => ?_)
               · go_keep
               clear hK K
               try simp only [Act.put, List.setIfInBounds_toArray, List.set_cons_zero, List.set_cons_succ]
               refine wpAnyH_ready (rs := [10]) (by kernel_rfl) (by simp) ?_
               refine AllReadyH.cons (o := _) rfl (fun K hK => ?_) ?_
               · refine step_append_lies _ rfl (.tmp 74) (.tmp 76) 138 rfl w.heap.size 144 i0 _ 4 56 Tryz.underlying138 hi0 hz0 hz1 hz2 rfl (by omega) (hd g1 par.length c1) par.length vs (by rfl) ((HOX.out.alloc _).drew) ⟨X.heap.size, 0, none⟩ 1 1 [.int .i64 4, .string ⟨#[]⟩, .int .i64 0, hd g cur.length c'] (by rfl) (by rfl) (World.news_of_block (blkn _ _ (by simp) #[.int .i64 4, .string ⟨#[]⟩, .int .i64 0, hd g cur.length c'] 144)) (by simp [Value.oneCell']) (by omega) (by unfold maxLen; omega) (by omega) (by have := HR.out.fr.size; have := HFX.out.size; simp; omega) (X.heap.size + 1) (by simp) ?_
                 intro gg cap w7 hown1 hgrow hat hlt
                 have hat2 : gg = g1 ∨ gg = X.heap.size + 1 := by rcases hat with h | h; (have h' : some g1 = some gg := h; injection h' with h'; exact .inl h'.symm); exact .inr h
                 have hxs := HFX.out.size
                 have hne1 : gg ≠ sb := by rcases hat2 with h | h <;> omega
                 have hne3 : sb ≠ gg := hne1.symm
                 have hfrx : Fr wr ((X.alloc (.cells #[.int .i64 4, .string ⟨#[]⟩, .int .i64 0, hd g cur.length c'] 144)).drew) := (HFX.out.alloc _).drew
                 have HFW := Lib.hid (show Fr w w7 from Below.grown (HR.out.fr.call hfrx) hgrow (by have := HR.out.fr.size; simp; omega) (fun k hk => by have e' : some g1 = some k := hk; injection e' with e'; have := (own_cap HOV.out).2.1; omega))
                 have HKW := Lib.hid (show ∀ b, b < wr.heap.size → b ≠ g1 → w7.heap[b]? = wr.heap[b]? from fun b h1 h2 => (hgrow.block b (by simp; omega) (fun e => h2 (by have e' : some b = some g1 := e; injection e'))).trans (hfrx.block b h1))
                 have hsz7 : wr.heap.size ≤ w7.heap.size := by have := hgrow.size; simp at this; omega
                 have fz : w7.frozen? ⟨sb, rest.length, none⟩ = false := World.ownsRow.frozenAt (own_heap HPR.out (HKW.out sb (by omega) (fun e => hgne e.symm))) _
                 have cz : w7.cell? ⟨sb, rest.length, none⟩ = some (hd g1 par.length c1) := (cell_of_heap (HKW.out sb (by omega) (fun e => hgne e.symm))).trans hc2
                 have hbt : w7.heap[wr.heap.size + 1]? = X.heap[wr.heap.size + 1]? := (hgrow.block _ (by have := HZX.out; simp; omega) (fun e => by have e' : some (wr.heap.size + 1) = some g1 := e; injection e'; omega)).trans (((Fr.refl X).alloc _).drew.block _ (by have := HZX.out; omega))
                 have CZ := Lib.hid (show w7.cell? ⟨wr.heap.size + 1, 0, none⟩ = some (.int .i64 4) ∧ w7.cell? ⟨wr.heap.size + 1, 1, none⟩ = some (.string ⟨#[]⟩) ∧ w7.cell? ⟨wr.heap.size + 1, 2, none⟩ = some (.int .i64 0) ∧ w7.cell? ⟨wr.heap.size + 1, 3, none⟩ = some (hd g cur.length c') from ⟨(cell_of_heap hbt).trans t0, (cell_of_heap hbt).trans t1, (cell_of_heap hbt).trans t2, (cell_of_heap hbt).trans t3⟩)
                 have hbs : (w7.setCell ⟨sb, rest.length, none⟩ (hd gg (par.length + 1) cap)).heap[wr.heap.size + 1]? = w7.heap[wr.heap.size + 1]? := Below.heap_setCell _ _ _ _ (by simp; omega)
                 have CS := Lib.hid (show (w7.setCell ⟨sb, rest.length, none⟩ (hd gg (par.length + 1) cap)).cell? ⟨wr.heap.size + 1, 0, none⟩ = some (.int .i64 4) ∧ (w7.setCell ⟨sb, rest.length, none⟩ (hd gg (par.length + 1) cap)).cell? ⟨wr.heap.size + 1, 1, none⟩ = some (.string ⟨#[]⟩) ∧ (w7.setCell ⟨sb, rest.length, none⟩ (hd gg (par.length + 1) cap)).cell? ⟨wr.heap.size + 1, 2, none⟩ = some (.int .i64 0) ∧ (w7.setCell ⟨sb, rest.length, none⟩ (hd gg (par.length + 1) cap)).cell? ⟨wr.heap.size + 1, 3, none⟩ = some (hd g cur.length c') from ⟨(cell_of_heap hbs).trans CZ.out.1, (cell_of_heap hbs).trans CZ.out.2.1, (cell_of_heap hbs).trans CZ.out.2.2.1, (cell_of_heap hbs).trans CZ.out.2.2.2⟩)
                 have hgx : gg = g1 ∨ wr.heap.size ≤ gg := by rcases hat2 with h | h; exact .inl h; exact .inr (by omega)
                 have EN := end_one (w := w) (wr := wr) (sb := sb) (sc := sc) (k := rest.length) (g := g1) (gg := gg) (n := par.length) (cap := cap) hown1 HPR.out HKW.out hsz7 HFW.out hne1 hgne hgx
                 have R1 := Lib.hid (show RelP s w (some ⟨gT, 0, none⟩) ts (hd sb (rest.length + 1) sc) (.int .i64 (n : Int)) (.int .i64 ((i : Int) + 1)) (w7.setCell ⟨sb, rest.length, none⟩ (hd gg (par.length + 1) cap)) from ⟨i + 1, n, sb, sc, (par ++ [.node 4 ⟨#[]⟩ 0 cur]) :: rest, (gg, cap) :: gr, _, by go_num, by go_num, by simp, HR.out.cls HFV.out EN.row EN.stk EN.blk EN.size EN.gg EN.fr HI.out HE.out⟩)
                 clear hown1 hat hat2 hgrow hbt hbs hgx EN hfrx hsz7 hxs
                 refine hK.out _ _ ?_ (fun hHeld => ?_)
                 · first | with_reducible exact CZ.out | with_reducible exact CS.out | go_keep
                 clear hK K
                 try simp only [Act.put, List.setIfInBounds_toArray, List.set_cons_zero, List.set_cons_succ]
                 refine wpAnyH_take (i := 11) (oi := _) (v := ?v18) rfl (by kernel_rfl) (by kernel_rfl) (by kernel_rfl) (fun _ _ _ h => h) (Or.inl ⟨by rfl, ?hy18⟩) (by assumption) ?rest18
                 case hy18 => (intro w hSw; (try dsimp only at hSw); go_simp; try with_reducible rfl)
                 try simp only [Act.put, List.setIfInBounds_toArray, List.set_cons_zero, List.set_cons_succ]
                 refine wpAnyH_ready (rs := [12]) (by kernel_rfl) (by simp) ?_
                 refine AllReadyH.cons (o := _) rfl (fun K hK => ?_) ?_
                 · go_simp
                   refine hK.out _ _ ?_ (fun hHeld => ?_)
                   · first | with_reducible exact CZ.out | with_reducible exact CS.out | go_keep
                   clear hK K
                   try simp only [Act.put, List.setIfInBounds_toArray, List.set_cons_zero, List.set_cons_succ]
                   refine wpAnyH_done (by kernel_rfl) ?_ _
                   refine NoPanic.normal ?_
                   go_wp2
                   go_roundw
                   case rel => with_reducible exact R1.out
                   case measure => have := HI.out; simp [intOf]; omega
                 exact AllReadyH.nil
               exact AllReadyH.nil
             exact AllReadyH.nil
           exact AllReadyH.nil
         · go_wp2_with fail
           have HFX := Lib.hid (show Fr wr ((((wr.alloc (.cells #[.int .i64 (tp : Int), .int .i64 5, .int .i64 tn, .int .i64 (tw : Int), .string td] 181)).alloc (.cells #[.int .i64 4, .string ⟨#[]⟩, .int .i64 0, hd g cur.length c'] 144)).alloc (.cells #[.bool true] 4)).drew) from (((Fr.refl wr).alloc _).alloc _).alloc _ |>.drew)
           have HZX := Lib.hid (show ((((wr.alloc (.cells #[.int .i64 (tp : Int), .int .i64 5, .int .i64 tn, .int .i64 (tw : Int), .string td] 181)).alloc (.cells #[.int .i64 4, .string ⟨#[]⟩, .int .i64 0, hd g cur.length c'] 144)).alloc (.cells #[.bool true] 4)).drew).heap.size = wr.heap.size + 3 from by simp)
           have BX := (Bk.alloc (show Bk ((wr.alloc (.cells #[.int .i64 (tp : Int), .int .i64 5, .int .i64 tn, .int .i64 (tw : Int), .string td] 181)).alloc (.cells #[.int .i64 4, .string ⟨#[]⟩, .int .i64 0, hd g cur.length c'] 144)) (wr.heap.size + 1) 144 #[.int .i64 4, .string ⟨#[]⟩, .int .i64 0, hd g cur.length c'] from blkn _ _ (by simp) _ _) (.cells #[.bool true] 4))
           have t0 : ((((wr.alloc (.cells #[.int .i64 (tp : Int), .int .i64 5, .int .i64 tn, .int .i64 (tw : Int), .string td] 181)).alloc (.cells #[.int .i64 4, .string ⟨#[]⟩, .int .i64 0, hd g cur.length c'] 144)).alloc (.cells #[.bool true] 4)).drew).cell? ⟨wr.heap.size + 1, 0, none⟩ = some (.int .i64 4) := BX.cell 0
           have t1 : ((((wr.alloc (.cells #[.int .i64 (tp : Int), .int .i64 5, .int .i64 tn, .int .i64 (tw : Int), .string td] 181)).alloc (.cells #[.int .i64 4, .string ⟨#[]⟩, .int .i64 0, hd g cur.length c'] 144)).alloc (.cells #[.bool true] 4)).drew).cell? ⟨wr.heap.size + 1, 1, none⟩ = some (.string ⟨#[]⟩) := BX.cell 1
           have t2 : ((((wr.alloc (.cells #[.int .i64 (tp : Int), .int .i64 5, .int .i64 tn, .int .i64 (tw : Int), .string td] 181)).alloc (.cells #[.int .i64 4, .string ⟨#[]⟩, .int .i64 0, hd g cur.length c'] 144)).alloc (.cells #[.bool true] 4)).drew).cell? ⟨wr.heap.size + 1, 2, none⟩ = some (.int .i64 0) := BX.cell 2
           have t3 : ((((wr.alloc (.cells #[.int .i64 (tp : Int), .int .i64 5, .int .i64 tn, .int .i64 (tw : Int), .string td] 181)).alloc (.cells #[.int .i64 4, .string ⟨#[]⟩, .int .i64 0, hd g cur.length c'] 144)).alloc (.cells #[.bool true] 4)).drew).cell? ⟨wr.heap.size + 1, 3, none⟩ = some (hd g cur.length c') := BX.cell 3
           clear BX
           generalize ((((wr.alloc (.cells #[.int .i64 (tp : Int), .int .i64 5, .int .i64 tn, .int .i64 (tw : Int), .string td] 181)).alloc (.cells #[.int .i64 4, .string ⟨#[]⟩, .int .i64 0, hd g cur.length c'] 144)).alloc (.cells #[.bool true] 4)).drew) = X at *
           have e1 : X.cell? ⟨sb, rest.length, none⟩ = some (hd g1 par.length c1) := HFX.out.get hc2
           have e2 : (X.alloc (.cells #[.int .i64 0, .string ⟨#[]⟩, .int .i64 0, .slice none 0 0] 144)).cell? ⟨sb, rest.length, none⟩ = some (hd g1 par.length c1) := (HFX.out.alloc _).get hc2
           have HOX := Lib.hid (own_heap HOV.out (HFX.out.block g1 hgl))
           refine wp_region_noPanic ?_
           refine wp_region_held_drew (S := (fun w' => w'.cell? ⟨wr.heap.size + 1, 0, none⟩ = some (.int .i64 4) ∧ w'.cell? ⟨wr.heap.size + 1, 1, none⟩ = some (.string ⟨#[]⟩) ∧ w'.cell? ⟨wr.heap.size + 1, 2, none⟩ = some (.int .i64 0) ∧ w'.cell? ⟨wr.heap.size + 1, 3, none⟩ = some (hd g cur.length c'))) (by kernel_rfl) (by go_keep) (fun hHeld => ?_)
           refine wpAnyH_take (i := 0) (oi := _) (v := ?v31) rfl (by kernel_rfl) (by kernel_rfl) (by kernel_rfl) (fun _ _ _ h => h) (Or.inl ⟨by rfl, ?hy31⟩) (by assumption) ?rest31
           case hy31 => (intro w hSw; (try dsimp only at hSw); go_simp; try with_reducible rfl)
           try simp only [Act.put, List.setIfInBounds_toArray, List.set_cons_zero, List.set_cons_succ]
           refine wpAnyH_take (i := 1) (oi := _) (v := ?v32) rfl (by kernel_rfl) (by kernel_rfl) (by kernel_rfl) (fun _ _ _ h => h) (Or.inl ⟨by rfl, ?hy32⟩) (by assumption) ?rest32
           case hy32 => (intro w hSw; (try dsimp only at hSw); go_simp; try with_reducible rfl)
           try simp only [Act.put, List.setIfInBounds_toArray, List.set_cons_zero, List.set_cons_succ]
           refine wpAnyH_take (i := 2) (oi := _) (v := ?v33) rfl (by kernel_rfl) (by kernel_rfl) (by kernel_rfl) (fun _ _ _ h => h) (Or.inl ⟨by rfl, ?hy33⟩) (by assumption) ?rest33
           case hy33 => (intro w hSw; (try dsimp only at hSw); go_simp; try with_reducible rfl)
           try simp only [Act.put, List.setIfInBounds_toArray, List.set_cons_zero, List.set_cons_succ]
           refine wpAnyH_take (i := 3) (oi := _) (v := ?v34) rfl (by kernel_rfl) (by kernel_rfl) (by kernel_rfl) (fun _ _ _ h => h) (Or.inl ⟨by rfl, ?hy34⟩) (by assumption) ?rest34
           case hy34 => (intro w hSw; (try dsimp only at hSw); go_simp; try with_reducible rfl)
           try simp only [Act.put, List.setIfInBounds_toArray, List.set_cons_zero, List.set_cons_succ]
           refine wpAnyH_take (i := 4) (oi := _) (v := ?v35) rfl (by kernel_rfl) (by kernel_rfl) (by kernel_rfl) (fun _ _ _ h => h) (Or.inl ⟨by rfl, ?hy35⟩) (by assumption) ?rest35
           case hy35 => (intro w hSw; (try dsimp only at hSw); go_simp; try with_reducible rfl)
           try simp only [Act.put, List.setIfInBounds_toArray, List.set_cons_zero, List.set_cons_succ]
           refine wpAnyH_take (i := 5) (oi := _) (v := ?v36) rfl (by kernel_rfl) (by kernel_rfl) (by kernel_rfl) (fun _ _ _ h => h) (Or.inl ⟨by rfl, ?hy36⟩) (by assumption) ?rest36
           case hy36 => (intro w hSw; (try dsimp only at hSw); go_simp; try with_reducible rfl)
           try simp only [Act.put, List.setIfInBounds_toArray, List.set_cons_zero, List.set_cons_succ]
           refine wpAnyH_take (i := 6) (oi := _) (v := ?v37) rfl (by kernel_rfl) (by kernel_rfl) (by kernel_rfl) (fun _ _ _ h => h) (Or.inl ⟨by rfl, ?hy37⟩) (by assumption) ?rest37
           case hy37 => (intro w hSw; (try dsimp only at hSw); go_simp; try with_reducible rfl)
           try simp only [Act.put, List.setIfInBounds_toArray, List.set_cons_zero, List.set_cons_succ]
           refine wpAnyH_take (i := 8) (oi := _) (v := ?v38) rfl (by kernel_rfl) (by kernel_rfl) (by kernel_rfl) (fun _ _ _ h => h) (Or.inl ⟨by rfl, ?hy38⟩) (by assumption) ?rest38
           case hy38 => (intro w hSw; (try dsimp only at hSw); go_simp; try with_reducible rfl)
           try simp only [Act.put, List.setIfInBounds_toArray, List.set_cons_zero, List.set_cons_succ]
           refine wpAnyH_ready (rs := [7, 10]) (by kernel_rfl) (by simp) ?_
           refine AllReadyH.cons (o := _) rfl (fun K hK => ?_) ?_
           · go_simp
             refine hK.out _ _ ?_ (fun hHeld => ?_)
             · go_keep
             clear hK K
             try simp only [Act.put, List.setIfInBounds_toArray, List.set_cons_zero, List.set_cons_succ]
             refine wpAnyH_take (i := 9) (oi := _) (v := ?v27) rfl (by kernel_rfl) (by kernel_rfl) (by kernel_rfl) (fun _ _ _ h => h) (Or.inl ⟨by rfl, ?hy27⟩) (by assumption) ?rest27
             case hy27 => (intro w hSw; (try dsimp only at hSw); go_simp; try with_reducible rfl)
             try simp only [Act.put, List.setIfInBounds_toArray, List.set_cons_zero, List.set_cons_succ]
             refine wpAnyH_ready (rs := [10]) (by kernel_rfl) (by simp) ?_
             refine AllReadyH.cons (o := _) rfl (fun K hK => ?_) ?_
             · go_simp
               refine hK.out _ _ ?_ (fun hHeld => ?_)
               · go_keep
               clear hK K
               try simp only [Act.put, List.setIfInBounds_toArray, List.set_cons_zero, List.set_cons_succ]
               refine wpAnyH_ready (rs := [11]) (by kernel_rfl) (by simp) ?_
               refine AllReadyH.cons (o := _) rfl (fun K hK => ?_) ?_
               · refine step_append_lies _ rfl (.tmp 60) (.tmp 63) 138 rfl w.heap.size 144 i0 _ 4 56 Tryz.underlying138 hi0 hz0 hz1 hz2 rfl (by omega) (hd g1 par.length c1) par.length vs (by rfl) ((HOX.out.alloc _).drew) ⟨X.heap.size, 0, none⟩ 1 1 [.int .i64 0, .string ⟨#[]⟩, .int .i64 0, .slice none 0 0] (by rfl) (by rfl) (World.news_of_block (blkn _ _ (by simp) #[.int .i64 0, .string ⟨#[]⟩, .int .i64 0, .slice none 0 0] 144)) (by simp [Value.oneCell']) (by omega) (by unfold maxLen; omega) (by omega) (by have := HR.out.fr.size; have := HFX.out.size; simp; omega) (X.heap.size + 1) (by simp) ?_
                 intro gg cap w7 hown1 hgrow hat hlt
                 have hat2 : gg = g1 ∨ gg = X.heap.size + 1 := by rcases hat with h | h; (have h' : some g1 = some gg := h; injection h' with h'; exact .inl h'.symm); exact .inr h
                 have hxs := HFX.out.size
                 have hne1 : gg ≠ sb := by rcases hat2 with h | h <;> omega
                 have hne3 : sb ≠ gg := hne1.symm
                 have hfrx : Fr wr ((X.alloc (.cells #[.int .i64 0, .string ⟨#[]⟩, .int .i64 0, .slice none 0 0] 144)).drew) := (HFX.out.alloc _).drew
                 have HFW := Lib.hid (show Fr w w7 from Below.grown (HR.out.fr.call hfrx) hgrow (by have := HR.out.fr.size; simp; omega) (fun k hk => by have e' : some g1 = some k := hk; injection e' with e'; have := (own_cap HOV.out).2.1; omega))
                 have HKW := Lib.hid (show ∀ b, b < wr.heap.size → b ≠ g1 → w7.heap[b]? = wr.heap[b]? from fun b h1 h2 => (hgrow.block b (by simp; omega) (fun e => h2 (by have e' : some b = some g1 := e; injection e'))).trans (hfrx.block b h1))
                 have hsz7 : wr.heap.size ≤ w7.heap.size := by have := hgrow.size; simp at this; omega
                 have fz : w7.frozen? ⟨sb, rest.length, none⟩ = false := World.ownsRow.frozenAt (own_heap HPR.out (HKW.out sb (by omega) (fun e => hgne e.symm))) _
                 have cz : w7.cell? ⟨sb, rest.length, none⟩ = some (hd g1 par.length c1) := (cell_of_heap (HKW.out sb (by omega) (fun e => hgne e.symm))).trans hc2
                 have hbt : w7.heap[wr.heap.size + 1]? = X.heap[wr.heap.size + 1]? := (hgrow.block _ (by have := HZX.out; simp; omega) (fun e => by have e' : some (wr.heap.size + 1) = some g1 := e; injection e'; omega)).trans (((Fr.refl X).alloc _).drew.block _ (by have := HZX.out; omega))
                 have CZ := Lib.hid (show w7.cell? ⟨wr.heap.size + 1, 0, none⟩ = some (.int .i64 4) ∧ w7.cell? ⟨wr.heap.size + 1, 1, none⟩ = some (.string ⟨#[]⟩) ∧ w7.cell? ⟨wr.heap.size + 1, 2, none⟩ = some (.int .i64 0) ∧ w7.cell? ⟨wr.heap.size + 1, 3, none⟩ = some (hd g cur.length c') from ⟨(cell_of_heap hbt).trans t0, (cell_of_heap hbt).trans t1, (cell_of_heap hbt).trans t2, (cell_of_heap hbt).trans t3⟩)
                 have hbs : (w7.setCell ⟨sb, rest.length, none⟩ (hd gg (par.length + 1) cap)).heap[wr.heap.size + 1]? = w7.heap[wr.heap.size + 1]? := Below.heap_setCell _ _ _ _ (by simp; omega)
                 have CS := Lib.hid (show (w7.setCell ⟨sb, rest.length, none⟩ (hd gg (par.length + 1) cap)).cell? ⟨wr.heap.size + 1, 0, none⟩ = some (.int .i64 4) ∧ (w7.setCell ⟨sb, rest.length, none⟩ (hd gg (par.length + 1) cap)).cell? ⟨wr.heap.size + 1, 1, none⟩ = some (.string ⟨#[]⟩) ∧ (w7.setCell ⟨sb, rest.length, none⟩ (hd gg (par.length + 1) cap)).cell? ⟨wr.heap.size + 1, 2, none⟩ = some (.int .i64 0) ∧ (w7.setCell ⟨sb, rest.length, none⟩ (hd gg (par.length + 1) cap)).cell? ⟨wr.heap.size + 1, 3, none⟩ = some (hd g cur.length c') from ⟨(cell_of_heap hbs).trans CZ.out.1, (cell_of_heap hbs).trans CZ.out.2.1, (cell_of_heap hbs).trans CZ.out.2.2.1, (cell_of_heap hbs).trans CZ.out.2.2.2⟩)
                 have hgx : gg = g1 ∨ wr.heap.size ≤ gg := by rcases hat2 with h | h; exact .inl h; exact .inr (by omega)
                 obtain ⟨p0, p1, p2, p3, q0, q1, q2, q3⟩ := own_four hown1
                 have EN := (end_two (w := w) (wr := wr) (sb := sb) (sc := sc) (k := rest.length) (g := g1) (gg := gg) (n := par.length) (cap := cap) (.int .i64 4) (.string ⟨#[]⟩) (.int .i64 0) (hd g cur.length c') hown1 HPR.out HKW.out hsz7 HFW.out hne1 hgne hgx).2
                 have R1 := Lib.hid (show RelP s w (some ⟨gT, 0, none⟩) ts (hd sb (rest.length + 1) sc) (.int .i64 (n : Int)) (.int .i64 ((i : Int) + 1)) (put4 (w7.setCell ⟨sb, rest.length, none⟩ (hd gg (par.length + 1) cap)) gg par.length (.int .i64 4) (.string ⟨#[]⟩) (.int .i64 0) (hd g cur.length c')) from ⟨i + 1, n, sb, sc, (par ++ [.node 4 ⟨#[]⟩ 0 cur]) :: rest, (gg, cap) :: gr, _, by go_num, by go_num, by simp, HR.out.cls HFV.out EN.row EN.stk EN.blk EN.size EN.gg EN.fr HI.out HE.out⟩)
                 clear hown1 hat hat2 hgrow hbt hbs hgx EN hfrx hsz7 hxs
                 refine hK.out _ _ ?_ (fun hHeld => ?_)
                 · first | with_reducible exact CZ.out | with_reducible exact CS.out | go_keep
                 clear hK K
                 try simp only [Act.put, List.setIfInBounds_toArray, List.set_cons_zero, List.set_cons_succ]
                 refine wpAnyH_take (i := 12) (oi := _) (v := ?v28) rfl (by kernel_rfl) (by kernel_rfl) (by kernel_rfl) (fun _ _ _ h => h) (Or.inl ⟨by rfl, ?hy28⟩) (by assumption) ?rest28
                 case hy28 => (intro w hSw; (try dsimp only at hSw); go_simp; try with_reducible rfl)
                 try simp only [Act.put, List.setIfInBounds_toArray, List.set_cons_zero, List.set_cons_succ]
                 refine wpAnyH_ready (rs := [13]) (by kernel_rfl) (by simp) ?_
                 refine AllReadyH.cons (o := _) rfl (fun K hK => ?_) ?_
                 · go_simp
                   refine hK.out _ _ ?_ (fun hHeld => ?_)
                   · first | with_reducible exact CZ.out | with_reducible exact CS.out | go_keep
                   clear hK K
                   try simp only [Act.put, List.setIfInBounds_toArray, List.set_cons_zero, List.set_cons_succ]
                   refine wpAnyH_done (by kernel_rfl) ?_ _
                   refine NoPanic.normal ?_
                   go_wp2
                   go_roundw
                   case rel => with_reducible exact R1.out
                   case measure => have := HI.out; simp [intOf]; omega
                 exact AllReadyH.nil
               exact AllReadyH.nil
             exact AllReadyH.nil
           refine AllReadyH.cons (o := _) rfl (fun K hK => ?_) ?_
           · go_simp
             refine hK.out _ _ ?_ (fun hHeld => ?_)
             · go_keep
             clear hK K
             try simp only [Act.put, List.setIfInBounds_toArray, List.set_cons_zero, List.set_cons_succ]
             refine wpAnyH_ready (rs := [7]) (by kernel_rfl) (by simp) ?_
             refine AllReadyH.cons (o := _) rfl (fun K hK => ?_) ?_
             · go_simp
               refine hK.out _ _ ?_ (fun hHeld => ?_)
               · go_keep
               clear hK K
               try simp only [Act.put, List.setIfInBounds_toArray, List.set_cons_zero, List.set_cons_succ]
               refine wpAnyH_take (i := 9) (oi := _) (v := ?v29) rfl (by kernel_rfl) (by kernel_rfl) (by kernel_rfl) (fun _ _ _ h => h) (Or.inl ⟨by rfl, ?hy29⟩) (by assumption) ?rest29
               case hy29 => (intro w hSw; (try dsimp only at hSw); go_simp; try with_reducible rfl)
               try simp only [Act.put, List.setIfInBounds_toArray, List.set_cons_zero, List.set_cons_succ]
               refine wpAnyH_ready (rs := [11]) (by kernel_rfl) (by simp) ?_
               refine AllReadyH.cons (o := _) rfl (fun K hK => ?_) ?_
               · refine step_append_lies _ rfl (.tmp 60) (.tmp 63) 138 rfl w.heap.size 144 i0 _ 4 56 Tryz.underlying138 hi0 hz0 hz1 hz2 rfl (by omega) (hd g1 par.length c1) par.length vs (by rfl) ((HOX.out.alloc _).drew) ⟨X.heap.size, 0, none⟩ 1 1 [.int .i64 0, .string ⟨#[]⟩, .int .i64 0, .slice none 0 0] (by rfl) (by rfl) (World.news_of_block (blkn _ _ (by simp) #[.int .i64 0, .string ⟨#[]⟩, .int .i64 0, .slice none 0 0] 144)) (by simp [Value.oneCell']) (by omega) (by unfold maxLen; omega) (by omega) (by have := HR.out.fr.size; have := HFX.out.size; simp; omega) (X.heap.size + 1) (by simp) ?_
                 intro gg cap w7 hown1 hgrow hat hlt
                 have hat2 : gg = g1 ∨ gg = X.heap.size + 1 := by rcases hat with h | h; (have h' : some g1 = some gg := h; injection h' with h'; exact .inl h'.symm); exact .inr h
                 have hxs := HFX.out.size
                 have hne1 : gg ≠ sb := by rcases hat2 with h | h <;> omega
                 have hne3 : sb ≠ gg := hne1.symm
                 have hfrx : Fr wr ((X.alloc (.cells #[.int .i64 0, .string ⟨#[]⟩, .int .i64 0, .slice none 0 0] 144)).drew) := (HFX.out.alloc _).drew
                 have HFW := Lib.hid (show Fr w w7 from Below.grown (HR.out.fr.call hfrx) hgrow (by have := HR.out.fr.size; simp; omega) (fun k hk => by have e' : some g1 = some k := hk; injection e' with e'; have := (own_cap HOV.out).2.1; omega))
                 have HKW := Lib.hid (show ∀ b, b < wr.heap.size → b ≠ g1 → w7.heap[b]? = wr.heap[b]? from fun b h1 h2 => (hgrow.block b (by simp; omega) (fun e => h2 (by have e' : some b = some g1 := e; injection e'))).trans (hfrx.block b h1))
                 have hsz7 : wr.heap.size ≤ w7.heap.size := by have := hgrow.size; simp at this; omega
                 have fz : w7.frozen? ⟨sb, rest.length, none⟩ = false := World.ownsRow.frozenAt (own_heap HPR.out (HKW.out sb (by omega) (fun e => hgne e.symm))) _
                 have cz : w7.cell? ⟨sb, rest.length, none⟩ = some (hd g1 par.length c1) := (cell_of_heap (HKW.out sb (by omega) (fun e => hgne e.symm))).trans hc2
                 have hbt : w7.heap[wr.heap.size + 1]? = X.heap[wr.heap.size + 1]? := (hgrow.block _ (by have := HZX.out; simp; omega) (fun e => by have e' : some (wr.heap.size + 1) = some g1 := e; injection e'; omega)).trans (((Fr.refl X).alloc _).drew.block _ (by have := HZX.out; omega))
                 have CZ := Lib.hid (show w7.cell? ⟨wr.heap.size + 1, 0, none⟩ = some (.int .i64 4) ∧ w7.cell? ⟨wr.heap.size + 1, 1, none⟩ = some (.string ⟨#[]⟩) ∧ w7.cell? ⟨wr.heap.size + 1, 2, none⟩ = some (.int .i64 0) ∧ w7.cell? ⟨wr.heap.size + 1, 3, none⟩ = some (hd g cur.length c') from ⟨(cell_of_heap hbt).trans t0, (cell_of_heap hbt).trans t1, (cell_of_heap hbt).trans t2, (cell_of_heap hbt).trans t3⟩)
                 have hbs : (w7.setCell ⟨sb, rest.length, none⟩ (hd gg (par.length + 1) cap)).heap[wr.heap.size + 1]? = w7.heap[wr.heap.size + 1]? := Below.heap_setCell _ _ _ _ (by simp; omega)
                 have CS := Lib.hid (show (w7.setCell ⟨sb, rest.length, none⟩ (hd gg (par.length + 1) cap)).cell? ⟨wr.heap.size + 1, 0, none⟩ = some (.int .i64 4) ∧ (w7.setCell ⟨sb, rest.length, none⟩ (hd gg (par.length + 1) cap)).cell? ⟨wr.heap.size + 1, 1, none⟩ = some (.string ⟨#[]⟩) ∧ (w7.setCell ⟨sb, rest.length, none⟩ (hd gg (par.length + 1) cap)).cell? ⟨wr.heap.size + 1, 2, none⟩ = some (.int .i64 0) ∧ (w7.setCell ⟨sb, rest.length, none⟩ (hd gg (par.length + 1) cap)).cell? ⟨wr.heap.size + 1, 3, none⟩ = some (hd g cur.length c') from ⟨(cell_of_heap hbs).trans CZ.out.1, (cell_of_heap hbs).trans CZ.out.2.1, (cell_of_heap hbs).trans CZ.out.2.2.1, (cell_of_heap hbs).trans CZ.out.2.2.2⟩)
                 have hgx : gg = g1 ∨ wr.heap.size ≤ gg := by rcases hat2 with h | h; exact .inl h; exact .inr (by omega)
                 obtain ⟨p0, p1, p2, p3, q0, q1, q2, q3⟩ := own_four hown1
                 have EN := (end_two (w := w) (wr := wr) (sb := sb) (sc := sc) (k := rest.length) (g := g1) (gg := gg) (n := par.length) (cap := cap) (.int .i64 4) (.string ⟨#[]⟩) (.int .i64 0) (hd g cur.length c') hown1 HPR.out HKW.out hsz7 HFW.out hne1 hgne hgx).2
                 have R1 := Lib.hid (show RelP s w (some ⟨gT, 0, none⟩) ts (hd sb (rest.length + 1) sc) (.int .i64 (n : Int)) (.int .i64 ((i : Int) + 1)) (put4 (w7.setCell ⟨sb, rest.length, none⟩ (hd gg (par.length + 1) cap)) gg par.length (.int .i64 4) (.string ⟨#[]⟩) (.int .i64 0) (hd g cur.length c')) from ⟨i + 1, n, sb, sc, (par ++ [.node 4 ⟨#[]⟩ 0 cur]) :: rest, (gg, cap) :: gr, _, by go_num, by go_num, by simp, HR.out.cls HFV.out EN.row EN.stk EN.blk EN.size EN.gg EN.fr HI.out HE.out⟩)
                 clear hown1 hat hat2 hgrow hbt hbs hgx EN hfrx hsz7 hxs
                 refine hK.out _ _ ?_ (fun hHeld => ?_)
                 · first | with_reducible exact CZ.out | with_reducible exact CS.out | go_keep
                 clear hK K
                 try simp only [Act.put, List.setIfInBounds_toArray, List.set_cons_zero, List.set_cons_succ]
                 refine wpAnyH_take (i := 12) (oi := _) (v := ?v30) rfl (by kernel_rfl) (by kernel_rfl) (by kernel_rfl) (fun _ _ _ h => h) (Or.inl ⟨by rfl, ?hy30⟩) (by assumption) ?rest30
                 case hy30 => (intro w hSw; (try dsimp only at hSw); go_simp; try with_reducible rfl)
                 try simp only [Act.put, List.setIfInBounds_toArray, List.set_cons_zero, List.set_cons_succ]
                 refine wpAnyH_ready (rs := [13]) (by kernel_rfl) (by simp) ?_
                 refine AllReadyH.cons (o := _) rfl (fun K hK => ?_) ?_
                 · go_simp
                   refine hK.out _ _ ?_ (fun hHeld => ?_)
                   · first | with_reducible exact CZ.out | with_reducible exact CS.out | go_keep
                   clear hK K
                   try simp only [Act.put, List.setIfInBounds_toArray, List.set_cons_zero, List.set_cons_succ]
                   refine wpAnyH_done (by kernel_rfl) ?_ _
                   refine NoPanic.normal ?_
                   go_wp2
                   go_roundw
                   case rel => with_reducible exact R1.out
                   case measure => have := HI.out; simp [intOf]; omega
                 exact AllReadyH.nil
               exact AllReadyH.nil
             exact AllReadyH.nil
           exact AllReadyH.nil
     have b5 : (tk == 5) = false := by simpa using h5
     by_cases hm : 65536 < n + 1
     · have HE := Lib.hid ((pgo_many h6 h5 (.inl hm)).symm.trans HN.out)
       have dm : decide ((65536 : Int) < (n : Int) + 1) = true := by simp; omega
       clear hm h5 h6
       go_wp2_with fail
       go_quiet (fail)
       go_wp2
       go_ret3
       exact ps_err (((HR.out.fr.alloc _).drewN _)) rfl HE.out.symm
     have dm : decide ((65536 : Int) < (n : Int) + 1) = false := by simp; omega
     by_cases h4 : tk = 4
     · subst h4
       by_cases hd32 : 32 < (cur :: rest).length
       · have HE := Lib.hid ((pgo_many h6 h5 (.inr ⟨rfl, hd32⟩)).symm.trans HN.out)
         have d32 : decide ((32 : Int) < (rest.length : Int) + 1) = true := by simp at hd32 ⊢; omega
         clear hm h5 h6
         go_wp2_with fail
         go_quiet (fail)
         go_wp2
         go_ret3
         exact ps_err (((HR.out.fr.alloc _).drewN _)) rfl HE.out.symm
       · have d32 : decide ((32 : Int) < (rest.length : Int) + 1) = false := by simp at hd32 ⊢; omega
         have HE := Lib.hid ((pgo4 rfl (by intro h; rcases h with h | h; exact hm h; exact hd32 h.2)).symm.trans HN.out)
         obtain ⟨i0, hi0, hz0, hz1, hz2⟩ := info_parts infoSl
         have HM := Lib.hid (show n + 1 ≤ 65536 ∧ (cur :: rest).length + 1 ≤ 33 from ⟨by omega, by omega⟩)
         clear hm h5 h6 hd32
         go_wp2_with (at_builtin; (refine wpList_append_lies _ rfl (.tmp 98) (.tmp 100) 177 rfl w.heap.size 138 i0 _ 1 24 Tryz.underlying177 hi0 hz0 hz1 hz2 rfl (by omega) (hd sb (rest.length + 1) sc) (rest.length + 1) _ rfl (((HR.out.stk.row.alloc _).alloc _).alloc _) ⟨wr.heap.size + 1 + 1, 0, none⟩ 1 1 [hd (wr.heap.size + 1) 0 0] rfl rfl (World.news_of_block (blkn _ _ (by simp) #[hd (wr.heap.size + 1) 0 0] 138)) (by simp [Value.oneCell']) (by omega) (by unfold maxLen; omega) (by omega) (by have := HR.out.fr.size; simp; omega) (wr.heap.size + 3) (by simp) ?_; intro gg cap w7 ho7 hg7 hat7 hlt7; have HO7 := Lib.hid ho7; have HG7 := Lib.hid hg7; have HA7 := Lib.hid hat7; clear ho7 hg7 hat7))
         go_roundw
         case rel => exact ⟨i + 1, n + 1, gg, cap, [] :: cur :: rest, (wr.heap.size + 1, 0) :: (g, c') :: gr, D, by go_num, by go_num, by simp, HR.out.opn HG7.out HO7.out (by have := HA7.out; rcases this with h | h; exact .inl (by injection h); exact .inr h) HI.out HM.out.1 HM.out.2 HE.out⟩
         case measure => have := HI.out; simp [intOf]; omega
     · have b4 : (tk == 4) = false := by simpa using h4
       have HE := Lib.hid ((pgo_leaf h6 h5 h4 hm).symm.trans HN.out)
       obtain ⟨i0, hi0, hz0, hz1, hz2⟩ := info_parts infoTr
       have HM := Lib.hid (show n + 1 ≤ 65536 from by omega)
       have hlen : cur.length ≤ 65537 := by have := HR.out.sum; simp [sumL] at this; omega
       obtain ⟨hhl, hc1, hf1⟩ := HR.out.stk.headers
       obtain ⟨vs, hov, hfv⟩ := HR.out.stk.lvs.1
       have hgl := (own_cap hov).2.2
       have hgne : g ≠ sb := fun e => HR.out.stk.one (by simp [e])
       have HOV := Lib.hid hov
       have HFV := Lib.hid hfv
       have HHL := Lib.hid hhl
       clear hm h5 h6 h4 hov hfv hhl
       have e0 := ((Fr.refl wr).alloc (.cells #[.int .i64 (tp : Int), .int .i64 tk, .int .i64 tn, .int .i64 (tw : Int), .string td] 181)).get hc1
       have e1 := (((Fr.refl wr).alloc (.cells #[.int .i64 (tp : Int), .int .i64 tk, .int .i64 tn, .int .i64 (tw : Int), .string td] 181)).alloc (.cells #[.int .i64 0, .string ⟨#[]⟩, .int .i64 0, .slice none 0 0] 144)).drew.get hc1
       have n0 : (0 : Int) ≤ (rest.length : Int) := by omega
       have n1 : (rest.length : Int) < (rest.length : Int) + 1 := by omega
       have n2 : (0 : Int) ≤ (cur.length : Int) := by omega
       have n3 : (cur.length : Int) < (cur.length : Int) + 1 := by omega
       go_wp2_with fail
       refine wp_region_noPanic ?_
       refine wp_region_held_drew (S := (fun w' => w'.cell? ⟨wr.heap.size, 1, none⟩ = some (.int .i64 tk) ∧ w'.cell? ⟨wr.heap.size, 4, none⟩ = some (.string td) ∧ w'.cell? ⟨wr.heap.size, 2, none⟩ = some (.int .i64 tn))) (by kernel_rfl) (by go_keep) (fun hHeld => ?_)
       refine wpAnyH_take (i := 0) (oi := _) (v := ?v1) rfl (by kernel_rfl) (by kernel_rfl) (by kernel_rfl) (fun _ _ _ h => h) (Or.inl ⟨by rfl, ?hy1⟩) (by assumption) ?rest1
       case hy1 => (intro w hSw; (try dsimp only at hSw); go_simp; try with_reducible rfl)
       try simp only [Act.put, List.setIfInBounds_toArray, List.set_cons_zero, List.set_cons_succ]
       refine wpAnyH_take (i := 1) (oi := _) (v := ?v2) rfl (by kernel_rfl) (by kernel_rfl) (by kernel_rfl) (fun _ _ _ h => h) (Or.inl ⟨by rfl, ?hy2⟩) (by assumption) ?rest2
       case hy2 => (intro w hSw; (try dsimp only at hSw); go_simp; try with_reducible rfl)
       try simp only [Act.put, List.setIfInBounds_toArray, List.set_cons_zero, List.set_cons_succ]
       refine wpAnyH_take (i := 2) (oi := _) (v := ?v3) rfl (by kernel_rfl) (by kernel_rfl) (by kernel_rfl) (fun _ _ _ h => h) (Or.inl ⟨by rfl, ?hy3⟩) (by assumption) ?rest3
       case hy3 => (intro w hSw; (try dsimp only at hSw); go_simp; try with_reducible rfl)
       try simp only [Act.put, List.setIfInBounds_toArray, List.set_cons_zero, List.set_cons_succ]
       refine wpAnyH_take (i := 4) (oi := _) (v := ?v4) rfl (by kernel_rfl) (by kernel_rfl) (by kernel_rfl) (fun _ _ _ h => h) (Or.inl ⟨by rfl, ?hy4⟩) (by assumption) ?rest4
       case hy4 => (intro w hSw; (try dsimp only at hSw); go_simp; try with_reducible rfl)
       try simp only [Act.put, List.setIfInBounds_toArray, List.set_cons_zero, List.set_cons_succ]
       refine wpAnyH_take (i := 5) (oi := _) (v := ?v5) rfl (by kernel_rfl) (by kernel_rfl) (by kernel_rfl) (fun _ _ _ h => h) (Or.inl ⟨by rfl, ?hy5⟩) (by assumption) ?rest5
       case hy5 => (intro w hSw; (try dsimp only at hSw); go_simp; try with_reducible rfl)
       try simp only [Act.put, List.setIfInBounds_toArray, List.set_cons_zero, List.set_cons_succ]
       refine wpAnyH_take (i := 6) (oi := _) (v := ?v6) rfl (by kernel_rfl) (by kernel_rfl) (by kernel_rfl) (fun _ _ _ h => h) (Or.inl ⟨by rfl, ?hy6⟩) (by assumption) ?rest6
       case hy6 => (intro w hSw; (try dsimp only at hSw); go_simp; try with_reducible rfl)
       try simp only [Act.put, List.setIfInBounds_toArray, List.set_cons_zero, List.set_cons_succ]
       refine wpAnyH_take (i := 7) (oi := _) (v := ?v7) rfl (by kernel_rfl) (by kernel_rfl) (by kernel_rfl) (fun _ _ _ h => h) (Or.inl ⟨by rfl, ?hy7⟩) (by assumption) ?rest7
       case hy7 => (intro w hSw; (try dsimp only at hSw); go_simp; try with_reducible rfl)
       try simp only [Act.put, List.setIfInBounds_toArray, List.set_cons_zero, List.set_cons_succ]
       refine wpAnyH_take (i := 8) (oi := _) (v := ?v8) rfl (by kernel_rfl) (by kernel_rfl) (by kernel_rfl) (fun _ _ _ h => h) (Or.inl ⟨by rfl, ?hy8⟩) (by assumption) ?rest8
       case hy8 => (intro w hSw; (try dsimp only at hSw); go_simp; try with_reducible rfl)
       try simp only [Act.put, List.setIfInBounds_toArray, List.set_cons_zero, List.set_cons_succ]
       refine wpAnyH_take (i := 9) (oi := _) (v := ?v9) rfl (by kernel_rfl) (by kernel_rfl) (by kernel_rfl) (fun _ _ _ h => h) (Or.inl ⟨by rfl, ?hy9⟩) (by assumption) ?rest9
       case hy9 => (intro w hSw; (try dsimp only at hSw); go_simp; try with_reducible rfl)
       try simp only [Act.put, List.setIfInBounds_toArray, List.set_cons_zero, List.set_cons_succ]
       refine wpAnyH_take (i := 10) (oi := _) (v := ?v10) rfl (by kernel_rfl) (by kernel_rfl) (by kernel_rfl) (fun _ _ _ h => h) (Or.inl ⟨by rfl, ?hy10⟩) (by assumption) ?rest10
       case hy10 => (intro w hSw; (try dsimp only at hSw); go_simp; try with_reducible rfl)
       try simp only [Act.put, List.setIfInBounds_toArray, List.set_cons_zero, List.set_cons_succ]
       refine wpAnyH_ready (rs := [3, 12]) (by kernel_rfl) (by simp) ?_
       refine AllReadyH.cons (o := _) rfl (fun K hK => ?_) ?_
       · go_simp
         refine hK.out _ _ ?_ (fun hHeld => ?_)
         · go_keep
         clear hK K
         try simp only [Act.put, List.setIfInBounds_toArray, List.set_cons_zero, List.set_cons_succ]
         refine wpAnyH_take (i := 11) (oi := _) (v := ?v11) rfl (by kernel_rfl) (by kernel_rfl) (by kernel_rfl) (fun _ _ _ h => h) (Or.inl ⟨by rfl, ?hy11⟩) (by assumption) ?rest11
         case hy11 => (intro w hSw; (try dsimp only at hSw); go_simp; try with_reducible rfl)
         try simp only [Act.put, List.setIfInBounds_toArray, List.set_cons_zero, List.set_cons_succ]
         refine wpAnyH_ready (rs := [12]) (by kernel_rfl) (by simp) ?_
         refine AllReadyH.cons (o := _) rfl (fun K hK => ?_) ?_
         · go_simp
           refine hK.out _ _ ?_ (fun hHeld => ?_)
           · go_keep
           clear hK K
           try simp only [Act.put, List.setIfInBounds_toArray, List.set_cons_zero, List.set_cons_succ]
           refine wpAnyH_ready (rs := [13]) (by kernel_rfl) (by simp) ?_
           refine AllReadyH.cons (o := _) rfl (fun K hK => ?_) ?_
           · refine step_append_lies _ rfl (.tmp 105) (.tmp 114) 138 rfl w.heap.size 144 i0 _ 4 56 Tryz.underlying138 hi0 hz0 hz1 hz2 rfl (by omega) (hd g cur.length c') cur.length vs (by rfl) (((HOV.out.alloc _).alloc _).drew) ⟨wr.heap.size + 1, 0, none⟩ 1 1 [.int .i64 0, .string ⟨#[]⟩, .int .i64 0, .slice none 0 0] (by rfl) (by rfl) (World.news_of_block (blkn _ _ (by simp) #[.int .i64 0, .string ⟨#[]⟩, .int .i64 0, .slice none 0 0] 144)) (by simp [Value.oneCell']) (by omega) (by unfold maxLen; omega) (by omega) (by have := HR.out.fr.size; simp; omega) (wr.heap.size + 2) (by simp) ?_
             intro gg cap w7 hown1 hgrow hat hlt
             have HO7 := Lib.hid hown1
             have HG7 := Lib.hid hgrow
             have hat2 : gg = g ∨ gg = wr.heap.size + 2 := by rcases hat with h | h; (have h' : some g = some gg := h; injection h' with h'; exact .inl h'.symm); exact .inr h
             have HA7 := Lib.hid hat2
             have hne1 : gg ≠ sb := by rcases hat2 with h | h <;> omega
             have hne2 : gg ≠ wr.heap.size := by rcases hat2 with h | h <;> omega
             have hne3 : sb ≠ gg := hne1.symm
             have hne4 : wr.heap.size ≠ gg := hne2.symm
             obtain ⟨p0, p1, p2, p3, q0, q1, q2, q3⟩ := own_four hown1
             have fz : w7.frozen? ⟨sb, rest.length, none⟩ = false := World.ownsRow.frozenAt (World.ownsRow.kept ((((HR.out.stk.row.alloc _).alloc _).drew)) hgrow (.inr (fun e => hgne (by have e' : some sb = some g := e; injection e' with e'; exact e'.symm)))) _
             have cz : w7.cell? ⟨sb, rest.length, none⟩ = some (hd g cur.length c') := hgrow.cell ((((Fr.refl wr).alloc _).alloc _).drew.get hc1) (fun e => hgne (by have e' : some sb = some g := e; injection e' with e'; exact e'.symm))
             have BT := ((Bk.new wr 181 #[.int .i64 (tp : Int), .int .i64 tk, .int .i64 tn, .int .i64 (tw : Int), .string td]).alloc (.cells #[.int .i64 0, .string ⟨#[]⟩, .int .i64 0, .slice none 0 0] 144))
             have ez : ∀ x, some wr.heap.size = (hd g cur.length c').ownBlock → x := fun x e => by have e' : some wr.heap.size = some g := e; injection e' with e'; omega
             have cz1 : w7.cell? ⟨wr.heap.size, 1, none⟩ = some (.int .i64 tk) := hgrow.cell (BT.cell 1) (ez _)
             have cz2 : w7.cell? ⟨wr.heap.size, 2, none⟩ = some (.int .i64 tn) := hgrow.cell (BT.cell 2) (ez _)
             have cz4 : w7.cell? ⟨wr.heap.size, 4, none⟩ = some (.string td) := hgrow.cell (BT.cell 4) (ez _)
             have KA := Lib.hid (far3 (g := gg) (sb := sb) (k := rest.length) hne4 (fun e => by omega) cz1 cz4 cz2 (n := cur.length) (x0 := .int .i64 tk) (x1 := .string td) (x2 := .int .i64 tn) (x3 := .slice none 0 0) (y := hd gg (cur.length + 1) cap)).1
             have KB := Lib.hid (far3 (g := gg) (sb := sb) (k := rest.length) hne4 (fun e => by omega) cz1 cz4 cz2 (n := cur.length) (x0 := .int .i64 tk) (x1 := .string td) (x2 := .int .i64 tn) (x3 := .slice none 0 0) (y := hd gg (cur.length + 1) cap)).2.1
             have KC := Lib.hid (far3 (g := gg) (sb := sb) (k := rest.length) hne4 (fun e => by omega) cz1 cz4 cz2 (n := cur.length) (x0 := .int .i64 tk) (x1 := .string td) (x2 := .int .i64 tn) (x3 := .slice none 0 0) (y := hd gg (cur.length + 1) cap)).2.2.1
             have KD := Lib.hid (far3 (g := gg) (sb := sb) (k := rest.length) hne4 (fun e => by omega) cz1 cz4 cz2 (n := cur.length) (x0 := .int .i64 tk) (x1 := .string td) (x2 := .int .i64 tn) (x3 := .slice none 0 0) (y := hd gg (cur.length + 1) cap)).2.2.2
             have EN := Lib.hid (end_two (w := w) (wr := wr) (sb := sb) (sc := sc) (k := rest.length) (g := g) (gg := gg) (n := cur.length) (cap := cap) (.int .i64 tk) (.string td) (.int .i64 tn) (.slice none 0 0) hown1 HR.out.stk.row (fun b h1 h2 => (hgrow.block b (by simp; omega) (fun e => h2 (by have e' : some b = some g := e; injection e'))).trans ((((Fr.refl wr).alloc _).alloc _).block b h1)) (by have := hgrow.size; simp at this; omega) (Below.grown ((((HR.out.fr.alloc _).alloc _).drew)) hgrow (by have := HR.out.fr.size; simp; omega) (fun k hk => by have e' : some g = some k := hk; injection e' with e'; have := (own_cap HOV.out).2.1; omega)) hne1 hgne (by rcases hat2 with h | h; exact .inl h; exact .inr (by omega)))
             have R1 := Lib.hid (show RelP s w (some ⟨gT, 0, none⟩) ts (hd sb (rest.length + 1) sc) (.int .i64 ((n : Int) + 1)) (.int .i64 ((i : Int) + 1)) ((put4 w7 gg cur.length (.int .i64 tk) (.string td) (.int .i64 tn) (.slice none 0 0)).setCell ⟨sb, rest.length, none⟩ (hd gg (cur.length + 1) cap)) from
               ⟨i + 1, n + 1, sb, sc, (cur ++ [.node tk td tn []]) :: rest, (gg, cap) :: gr, D, by go_num, by go_num, by simp, HR.out.leaf HFV.out EN.out.1.row EN.out.1.stk EN.out.1.blk EN.out.1.size EN.out.1.gg EN.out.1.fr HI.out HM.out HE.out⟩)
             have R2 := Lib.hid (show RelP s w (some ⟨gT, 0, none⟩) ts (hd sb (rest.length + 1) sc) (.int .i64 ((n : Int) + 1)) (.int .i64 ((i : Int) + 1)) (put4 (w7.setCell ⟨sb, rest.length, none⟩ (hd gg (cur.length + 1) cap)) gg cur.length (.int .i64 tk) (.string td) (.int .i64 tn) (.slice none 0 0)) from
               ⟨i + 1, n + 1, sb, sc, (cur ++ [.node tk td tn []]) :: rest, (gg, cap) :: gr, D, by go_num, by go_num, by simp, HR.out.leaf HFV.out EN.out.2.row EN.out.2.stk EN.out.2.blk EN.out.2.size EN.out.2.gg EN.out.2.fr HI.out HM.out HE.out⟩)
             clear hown1 hat hat2 hgrow BT ez EN
             refine hK.out _ _ ?_ (fun hHeld => ?_)
             · first | with_reducible exact ⟨cz1, cz4, cz2⟩ | with_reducible exact KA.out | with_reducible exact KB.out | with_reducible exact KC.out | with_reducible exact KD.out | go_keep
             clear hK K
             try simp only [Act.put, List.setIfInBounds_toArray, List.set_cons_zero, List.set_cons_succ]
             refine wpAnyH_take (i := 14) (oi := _) (v := ?v12) rfl (by kernel_rfl) (by kernel_rfl) (by kernel_rfl) (fun _ _ _ h => h) (Or.inl ⟨by rfl, ?hy12⟩) (by assumption) ?rest12
             case hy12 => (intro w hSw; (try dsimp only at hSw); go_simp; try with_reducible rfl)
             try simp only [Act.put, List.setIfInBounds_toArray, List.set_cons_zero, List.set_cons_succ]
             refine wpAnyH_take (i := 16) (oi := _) (v := ?v13) rfl (by kernel_rfl) (by kernel_rfl) (by kernel_rfl) (fun _ _ _ h => h) (Or.inl ⟨by rfl, ?hy13⟩) (by assumption) ?rest13
             case hy13 => (intro w hSw; (try dsimp only at hSw); go_simp; try with_reducible rfl)
             try simp only [Act.put, List.setIfInBounds_toArray, List.set_cons_zero, List.set_cons_succ]
             refine wpAnyH_ready (rs := [15, 17]) (by kernel_rfl) (by simp) ?_
             refine AllReadyH.cons (o := _) rfl (fun K hK => ?_) ?_
             · go_simp
               refine hK.out _ _ ?_ (fun hHeld => ?_)
               · first | with_reducible exact ⟨cz1, cz4, cz2⟩ | with_reducible exact KA.out | with_reducible exact KB.out | with_reducible exact KC.out | with_reducible exact KD.out | go_keep
               clear hK K
               try simp only [Act.put, List.setIfInBounds_toArray, List.set_cons_zero, List.set_cons_succ]
               refine wpAnyH_ready (rs := [17]) (by kernel_rfl) (by simp) ?_
               refine AllReadyH.cons (o := _) rfl (fun K hK => ?_) ?_
               · go_simp
                 refine hK.out _ _ ?_ (fun hHeld => ?_)
                 · first | with_reducible exact ⟨cz1, cz4, cz2⟩ | with_reducible exact KA.out | with_reducible exact KB.out | with_reducible exact KC.out | with_reducible exact KD.out | go_keep
                 clear hK K
                 try simp only [Act.put, List.setIfInBounds_toArray, List.set_cons_zero, List.set_cons_succ]
                 refine wpAnyH_done (by kernel_rfl) ?_ _
                 refine NoPanic.normal ?_
                 go_wp2
                 go_roundw
                 case rel => first
                   | with_reducible exact R1.out
                   | with_reducible exact R2.out
                 case measure => have := HI.out; simp [intOf]; omega
               exact AllReadyH.nil
             refine AllReadyH.cons (o := _) rfl (fun K hK => ?_) ?_
             · go_simp
               refine hK.out _ _ ?_ (fun hHeld => ?_)
               · first | with_reducible exact ⟨cz1, cz4, cz2⟩ | with_reducible exact KA.out | with_reducible exact KB.out | with_reducible exact KC.out | with_reducible exact KD.out | go_keep
               clear hK K
               try simp only [Act.put, List.setIfInBounds_toArray, List.set_cons_zero, List.set_cons_succ]
               refine wpAnyH_ready (rs := [15]) (by kernel_rfl) (by simp) ?_
               refine AllReadyH.cons (o := _) rfl (fun K hK => ?_) ?_
               · go_simp
                 refine hK.out _ _ ?_ (fun hHeld => ?_)
                 · first | with_reducible exact ⟨cz1, cz4, cz2⟩ | with_reducible exact KA.out | with_reducible exact KB.out | with_reducible exact KC.out | with_reducible exact KD.out | go_keep
                 clear hK K
                 try simp only [Act.put, List.setIfInBounds_toArray, List.set_cons_zero, List.set_cons_succ]
                 refine wpAnyH_done (by kernel_rfl) ?_ _
                 refine NoPanic.normal ?_
                 go_wp2
                 go_roundw
                 case rel => first
                   | with_reducible exact R1.out
                   | with_reducible exact R2.out
                 case measure => have := HI.out; simp [intOf]; omega
               exact AllReadyH.nil
             exact AllReadyH.nil
           exact AllReadyH.nil
         exact AllReadyH.nil
       refine AllReadyH.cons (o := _) rfl (fun K hK => ?_) ?_
       · go_simp
         refine hK.out _ _ ?_ (fun hHeld => ?_)
         · go_keep
         clear hK K
         try simp only [Act.put, List.setIfInBounds_toArray, List.set_cons_zero, List.set_cons_succ]
         refine wpAnyH_ready (rs := [3]) (by kernel_rfl) (by simp) ?_
         refine AllReadyH.cons (o := _) rfl (fun K hK => ?_) ?_
         · go_simp
           refine hK.out _ _ ?_ (fun hHeld => ?_)
           · go_keep
           clear hK K
           try simp only [Act.put, List.setIfInBounds_toArray, List.set_cons_zero, List.set_cons_succ]
           refine wpAnyH_take (i := 11) (oi := _) (v := ?v14) rfl (by kernel_rfl) (by kernel_rfl) (by kernel_rfl) (fun _ _ _ h => h) (Or.inl ⟨by rfl, ?hy14⟩) (by assumption) ?rest14
           case hy14 => (intro w hSw; (try dsimp only at hSw); go_simp; try with_reducible rfl)
           try simp only [Act.put, List.setIfInBounds_toArray, List.set_cons_zero, List.set_cons_succ]
           refine wpAnyH_ready (rs := [13]) (by kernel_rfl) (by simp) ?_
           refine AllReadyH.cons (o := _) rfl (fun K hK => ?_) ?_
           · refine step_append_lies _ rfl (.tmp 105) (.tmp 114) 138 rfl w.heap.size 144 i0 _ 4 56 Tryz.underlying138 hi0 hz0 hz1 hz2 rfl (by omega) (hd g cur.length c') cur.length vs (by rfl) (((HOV.out.alloc _).alloc _).drew) ⟨wr.heap.size + 1, 0, none⟩ 1 1 [.int .i64 0, .string ⟨#[]⟩, .int .i64 0, .slice none 0 0] (by rfl) (by rfl) (World.news_of_block (blkn _ _ (by simp) #[.int .i64 0, .string ⟨#[]⟩, .int .i64 0, .slice none 0 0] 144)) (by simp [Value.oneCell']) (by omega) (by unfold maxLen; omega) (by omega) (by have := HR.out.fr.size; simp; omega) (wr.heap.size + 2) (by simp) ?_
             intro gg cap w7 hown1 hgrow hat hlt
             have HO7 := Lib.hid hown1
             have HG7 := Lib.hid hgrow
             have hat2 : gg = g ∨ gg = wr.heap.size + 2 := by rcases hat with h | h; (have h' : some g = some gg := h; injection h' with h'; exact .inl h'.symm); exact .inr h
             have HA7 := Lib.hid hat2
             have hne1 : gg ≠ sb := by rcases hat2 with h | h <;> omega
             have hne2 : gg ≠ wr.heap.size := by rcases hat2 with h | h <;> omega
             have hne3 : sb ≠ gg := hne1.symm
             have hne4 : wr.heap.size ≠ gg := hne2.symm
             obtain ⟨p0, p1, p2, p3, q0, q1, q2, q3⟩ := own_four hown1
             have fz : w7.frozen? ⟨sb, rest.length, none⟩ = false := World.ownsRow.frozenAt (World.ownsRow.kept ((((HR.out.stk.row.alloc _).alloc _).drew)) hgrow (.inr (fun e => hgne (by have e' : some sb = some g := e; injection e' with e'; exact e'.symm)))) _
             have cz : w7.cell? ⟨sb, rest.length, none⟩ = some (hd g cur.length c') := hgrow.cell ((((Fr.refl wr).alloc _).alloc _).drew.get hc1) (fun e => hgne (by have e' : some sb = some g := e; injection e' with e'; exact e'.symm))
             have BT := ((Bk.new wr 181 #[.int .i64 (tp : Int), .int .i64 tk, .int .i64 tn, .int .i64 (tw : Int), .string td]).alloc (.cells #[.int .i64 0, .string ⟨#[]⟩, .int .i64 0, .slice none 0 0] 144))
             have ez : ∀ x, some wr.heap.size = (hd g cur.length c').ownBlock → x := fun x e => by have e' : some wr.heap.size = some g := e; injection e' with e'; omega
             have cz1 : w7.cell? ⟨wr.heap.size, 1, none⟩ = some (.int .i64 tk) := hgrow.cell (BT.cell 1) (ez _)
             have cz2 : w7.cell? ⟨wr.heap.size, 2, none⟩ = some (.int .i64 tn) := hgrow.cell (BT.cell 2) (ez _)
             have cz4 : w7.cell? ⟨wr.heap.size, 4, none⟩ = some (.string td) := hgrow.cell (BT.cell 4) (ez _)
             have KA := Lib.hid (far3 (g := gg) (sb := sb) (k := rest.length) hne4 (fun e => by omega) cz1 cz4 cz2 (n := cur.length) (x0 := .int .i64 tk) (x1 := .string td) (x2 := .int .i64 tn) (x3 := .slice none 0 0) (y := hd gg (cur.length + 1) cap)).1
             have KB := Lib.hid (far3 (g := gg) (sb := sb) (k := rest.length) hne4 (fun e => by omega) cz1 cz4 cz2 (n := cur.length) (x0 := .int .i64 tk) (x1 := .string td) (x2 := .int .i64 tn) (x3 := .slice none 0 0) (y := hd gg (cur.length + 1) cap)).2.1
             have KC := Lib.hid (far3 (g := gg) (sb := sb) (k := rest.length) hne4 (fun e => by omega) cz1 cz4 cz2 (n := cur.length) (x0 := .int .i64 tk) (x1 := .string td) (x2 := .int .i64 tn) (x3 := .slice none 0 0) (y := hd gg (cur.length + 1) cap)).2.2.1
             have KD := Lib.hid (far3 (g := gg) (sb := sb) (k := rest.length) hne4 (fun e => by omega) cz1 cz4 cz2 (n := cur.length) (x0 := .int .i64 tk) (x1 := .string td) (x2 := .int .i64 tn) (x3 := .slice none 0 0) (y := hd gg (cur.length + 1) cap)).2.2.2
             have EN := Lib.hid (end_two (w := w) (wr := wr) (sb := sb) (sc := sc) (k := rest.length) (g := g) (gg := gg) (n := cur.length) (cap := cap) (.int .i64 tk) (.string td) (.int .i64 tn) (.slice none 0 0) hown1 HR.out.stk.row (fun b h1 h2 => (hgrow.block b (by simp; omega) (fun e => h2 (by have e' : some b = some g := e; injection e'))).trans ((((Fr.refl wr).alloc _).alloc _).block b h1)) (by have := hgrow.size; simp at this; omega) (Below.grown ((((HR.out.fr.alloc _).alloc _).drew)) hgrow (by have := HR.out.fr.size; simp; omega) (fun k hk => by have e' : some g = some k := hk; injection e' with e'; have := (own_cap HOV.out).2.1; omega)) hne1 hgne (by rcases hat2 with h | h; exact .inl h; exact .inr (by omega)))
             have R1 := Lib.hid (show RelP s w (some ⟨gT, 0, none⟩) ts (hd sb (rest.length + 1) sc) (.int .i64 ((n : Int) + 1)) (.int .i64 ((i : Int) + 1)) ((put4 w7 gg cur.length (.int .i64 tk) (.string td) (.int .i64 tn) (.slice none 0 0)).setCell ⟨sb, rest.length, none⟩ (hd gg (cur.length + 1) cap)) from
               ⟨i + 1, n + 1, sb, sc, (cur ++ [.node tk td tn []]) :: rest, (gg, cap) :: gr, D, by go_num, by go_num, by simp, HR.out.leaf HFV.out EN.out.1.row EN.out.1.stk EN.out.1.blk EN.out.1.size EN.out.1.gg EN.out.1.fr HI.out HM.out HE.out⟩)
             have R2 := Lib.hid (show RelP s w (some ⟨gT, 0, none⟩) ts (hd sb (rest.length + 1) sc) (.int .i64 ((n : Int) + 1)) (.int .i64 ((i : Int) + 1)) (put4 (w7.setCell ⟨sb, rest.length, none⟩ (hd gg (cur.length + 1) cap)) gg cur.length (.int .i64 tk) (.string td) (.int .i64 tn) (.slice none 0 0)) from
               ⟨i + 1, n + 1, sb, sc, (cur ++ [.node tk td tn []]) :: rest, (gg, cap) :: gr, D, by go_num, by go_num, by simp, HR.out.leaf HFV.out EN.out.2.row EN.out.2.stk EN.out.2.blk EN.out.2.size EN.out.2.gg EN.out.2.fr HI.out HM.out HE.out⟩)
             clear hown1 hat hat2 hgrow BT ez EN
             refine hK.out _ _ ?_ (fun hHeld => ?_)
             · first | with_reducible exact ⟨cz1, cz4, cz2⟩ | with_reducible exact KA.out | with_reducible exact KB.out | with_reducible exact KC.out | with_reducible exact KD.out | go_keep
             clear hK K
             try simp only [Act.put, List.setIfInBounds_toArray, List.set_cons_zero, List.set_cons_succ]
             refine wpAnyH_take (i := 14) (oi := _) (v := ?v15) rfl (by kernel_rfl) (by kernel_rfl) (by kernel_rfl) (fun _ _ _ h => h) (Or.inl ⟨by rfl, ?hy15⟩) (by assumption) ?rest15
             case hy15 => (intro w hSw; (try dsimp only at hSw); go_simp; try with_reducible rfl)
             try simp only [Act.put, List.setIfInBounds_toArray, List.set_cons_zero, List.set_cons_succ]
             refine wpAnyH_take (i := 16) (oi := _) (v := ?v16) rfl (by kernel_rfl) (by kernel_rfl) (by kernel_rfl) (fun _ _ _ h => h) (Or.inl ⟨by rfl, ?hy16⟩) (by assumption) ?rest16
             case hy16 => (intro w hSw; (try dsimp only at hSw); go_simp; try with_reducible rfl)
             try simp only [Act.put, List.setIfInBounds_toArray, List.set_cons_zero, List.set_cons_succ]
             refine wpAnyH_ready (rs := [15, 17]) (by kernel_rfl) (by simp) ?_
             refine AllReadyH.cons (o := _) rfl (fun K hK => ?_) ?_
             · go_simp
               refine hK.out _ _ ?_ (fun hHeld => ?_)
               · first | with_reducible exact ⟨cz1, cz4, cz2⟩ | with_reducible exact KA.out | with_reducible exact KB.out | with_reducible exact KC.out | with_reducible exact KD.out | go_keep
               clear hK K
               try simp only [Act.put, List.setIfInBounds_toArray, List.set_cons_zero, List.set_cons_succ]
               refine wpAnyH_ready (rs := [17]) (by kernel_rfl) (by simp) ?_
               refine AllReadyH.cons (o := _) rfl (fun K hK => ?_) ?_
               · go_simp
                 refine hK.out _ _ ?_ (fun hHeld => ?_)
                 · first | with_reducible exact ⟨cz1, cz4, cz2⟩ | with_reducible exact KA.out | with_reducible exact KB.out | with_reducible exact KC.out | with_reducible exact KD.out | go_keep
                 clear hK K
                 try simp only [Act.put, List.setIfInBounds_toArray, List.set_cons_zero, List.set_cons_succ]
                 refine wpAnyH_done (by kernel_rfl) ?_ _
                 refine NoPanic.normal ?_
                 go_wp2
                 go_roundw
                 case rel => first
                   | with_reducible exact R1.out
                   | with_reducible exact R2.out
                 case measure => have := HI.out; simp [intOf]; omega
               exact AllReadyH.nil
             refine AllReadyH.cons (o := _) rfl (fun K hK => ?_) ?_
             · go_simp
               refine hK.out _ _ ?_ (fun hHeld => ?_)
               · first | with_reducible exact ⟨cz1, cz4, cz2⟩ | with_reducible exact KA.out | with_reducible exact KB.out | with_reducible exact KC.out | with_reducible exact KD.out | go_keep
               clear hK K
               try simp only [Act.put, List.setIfInBounds_toArray, List.set_cons_zero, List.set_cons_succ]
               refine wpAnyH_ready (rs := [15]) (by kernel_rfl) (by simp) ?_
               refine AllReadyH.cons (o := _) rfl (fun K hK => ?_) ?_
               · go_simp
                 refine hK.out _ _ ?_ (fun hHeld => ?_)
                 · first | with_reducible exact ⟨cz1, cz4, cz2⟩ | with_reducible exact KA.out | with_reducible exact KB.out | with_reducible exact KC.out | with_reducible exact KD.out | go_keep
                 clear hK K
                 try simp only [Act.put, List.setIfInBounds_toArray, List.set_cons_zero, List.set_cons_succ]
                 refine wpAnyH_done (by kernel_rfl) ?_ _
                 refine NoPanic.normal ?_
                 go_wp2
                 go_roundw
                 case rel => first
                   | with_reducible exact R1.out
                   | with_reducible exact R2.out
                 case measure => have := HI.out; simp [intOf]; omega
               exact AllReadyH.nil
             exact AllReadyH.nil
           exact AllReadyH.nil
         exact AllReadyH.nil
       exact AllReadyH.nil
   · obtain rfl : i = ts.length := by have := hR.i_le; omega
     have hends := hR.ends
     rw [List.drop_length] at hends
     rcases st with _ | ⟨cur, rest⟩
     · exact absurd rfl hR.ne
     rcases gs with _ | ⟨⟨g, c'⟩, gr⟩
     · exact hR.stk.lvs.elim
     rcases rest with _ | ⟨par, rest⟩
     · rcases gr with _ | ⟨⟨g1, c1⟩, gr⟩
       · obtain ⟨hl1, hc1, _⟩ := hR.stk.headers
         simp only [List.length_nil] at hc1
         have HE := Lib.hid (show Res.ok cur = run s.data.toList 0 [[]] 0 from hends)
         have HL := Lib.hid hR.stk.last
         clear hends hR hl1
         go_wp2
         go_ret3
         refine ⟨HR.out.fr, .inr ⟨cur, _, c', rfl, HL.out.1, HL.out.2.mono (fun b hb => ?_) (fun _ _ => rfl), HE.out.symm⟩⟩
         rcases hb with hb | rfl
         · exact ⟨HR.out.low b hb, (HR.out.stk.dead b hb).2.2⟩
         · exact HR.out.stk.lvs.lt b (by simp)
       · exact hR.stk.lvs.2.elim
     · have HE := Lib.hid (show Res.err s.size 31 = run s.data.toList 0 [[]] 0 from hends)
       have d1 : decide ((1 : Int) < (rest.length : Int) + 1 + 1) = true := by simp; omega
       clear hends hR
       go_wp2
       go_ret3
       exact ps_err HR.out.fr rfl HE.out.symm
end Go.Proofs.YtdipnhghdajplaaGreatDoor
