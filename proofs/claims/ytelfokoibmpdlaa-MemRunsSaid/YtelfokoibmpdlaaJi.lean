/- The document's Store. -/
import Derived.Test.YtelfokoibmpdlaaJb
import Derived.Test.YtelfokoibmpdlaaJd
import Derived.Test.YtelfokoibmpdlaaJh
import Derived.Test.YtelfokoibmpdlaaMg
namespace Go.Proofs.Ytelfokoibmpdlaa
open Go.RowKit
set_option linter.unusedSimpArgs false
set_option linter.unusedVariables false

theorem Lnk.unq {lw lp : List Rg} (h : Lnk lw lp) {i t x : Nat} (hi : i < lw.length) (ht : t < lw.length) (hne : t ≠ i) (hx : hitB lw[i] x = true) : (lw[t]).top ≤ x ∨ x + 1 ≤ (lw[t]).pl := by
  have h1 : lp.Pairwise (fun a b => a.top ≤ b.pl ∨ b.top ≤ a.pl) := h.good.rise.imp fun q => .inl q
  have h2 := (List.Perm.pairwise_iff (fun q => q.symm) h.perm).1 h1
  rw [List.pairwise_filter] at h2
  cases hh : hitB lw[t] x with
  | false =>
    simp only [hitB, Bool.and_eq_false_iff, decide_eq_false_iff_not] at hh
    omega
  | true =>
    have n1 := hit_ne hx
    have n2 := hit_ne hh
    have R : (lw[t]).top ≤ (lw[i]).pl ∨ (lw[i]).top ≤ (lw[t]).pl := by
      rcases Nat.lt_or_ge t i with q | q
      · exact List.pairwise_iff_getElem.1 h2 t i ht hi q n2 n1
      · exact (List.pairwise_iff_getElem.1 h2 i t hi ht (by omega) n1 n2).symm
    simp only [hitB, Bool.and_eq_true, decide_eq_true_eq] at hx hh
    omega
theorem MRows.row {w : World} {B : Nat} {M : Lo} {l : List Rg} (h : MRows w B M l) (hn : ∀ r ∈ l, RgIn r) : RowOf RgAt 3 w M.A l := fun h0 => by
  refine ⟨M.br, 0, h.addr h0, fun i hi => ⟨(some ⟨M.G i, 0, none⟩, M.C i), ⟨hn _ (List.getElem_mem hi), (h.caps i hi).1, (h.caps i hi).2, fun hl => ⟨M.G i, 0, rfl, (h.newg i hi).2, fun j hj => ?_⟩⟩, ?_, ?_, ?_⟩⟩
  · rw [Nat.zero_add]; exact (h.bytes i hi j _ (List.getElem?_eq_getElem hj)).1
  · rw [Nat.zero_add, Nat.mul_comm 3 i]; exact h.row0 i hi
  · rw [Nat.zero_add, Nat.mul_comm 3 i]; exact h.row1 i hi
  · rw [Nat.zero_add, Nat.mul_comm 3 i]; exact h.row2 i hi
theorem MRows.turn {S : Nat → Prop} {w w' : World} {B : Nat} {M : Lo} {l l' : List Rg} (h : MRows w B M l) (k : Kp S w w') (h2 : 0 < l.length → ¬ S M.br) (hl : l'.length = l.length) (hs : ∀ (i : Nat) (hi : i < l.length) (hi' : i < l'.length), l'[i].pl = l[i].pl ∧ l'[i].pm = l[i].pm ∧ l'[i].bs.length = l[i].bs.length)
    (hb : ∀ (i : Nat) (hi : i < l'.length), BytesAt w' (M.G i) l'[i].bs) : MRows w' B M l' := by
  refine ⟨by rw [hl]; exact h.cap, h.capm, fun h0 => h.addr (by omega), fun i hi => ?_, fun i hi => ?_, fun i hi => ?_, fun i hi => ?_, hb, fun i j hi hj e => h.one i j (by omega) (by omega) e, fun i hi => h.apr i (by omega), fun h0 => h.newr (by omega), fun i hi => ⟨(h.newg i (by omega)).1, Nat.lt_of_lt_of_le (h.newg i (by omega)).2 k.size⟩, h.nil⟩
  · rw [(hs i (by omega) hi).1]; exact k.get (h2 (by omega)) (h.row0 i (by omega))
  · rw [(hs i (by omega) hi).2.1]; exact k.get (h2 (by omega)) (h.row1 i (by omega))
  · rw [(hs i (by omega) hi).2.2]; exact k.get (h2 (by omega)) (h.row2 i (by omega))
  · rw [(hs i (by omega) hi).2.2]; exact h.caps i (by omega)
theorem MRows.kp {S : Nat → Prop} {w w' : World} {B : Nat} {M : Lo} {l : List Rg} (h : MRows w B M l) (k : Kp S w w') (h2 : 0 < l.length → ¬ S M.br) (h3 : ∀ i, i < l.length → ¬ S (M.G i)) : MRows w' B M l :=
  h.turn k h2 rfl (fun i hi _ => ⟨rfl, rfl, rfl⟩) fun i hi => (h.bytes i hi).kp k (h3 i hi)
theorem MRows.fr {w w' : World} {B : Nat} {M : Lo} {l : List Rg} (h : MRows w B M l) (k : Fr w w') : MRows w' B M l := h.kp (S := fun _ => False) (Kp.of k) (fun _ => id) fun _ _ => id
theorem MRows.base {w : World} {B B' : Nat} {M : Lo} {l : List Rg} (h : MRows w B M l) (hb : B' ≤ B) : MRows w B' M l :=
  ⟨h.cap, h.capm, h.addr, h.row0, h.row1, h.row2, h.caps, h.bytes, h.one, h.apr, fun h0 => Nat.le_trans hb (h.newr h0), fun i hi => ⟨Nat.le_trans hb (h.newg i hi).1, (h.newg i hi).2⟩, h.nil⟩
theorem put_num {r : Rg} (h : RgIn r) (a : Nat) {vs : List Nat} (hv : Bys vs) : RgIn (r.put a vs) := by
  refine ⟨h.pl, h.lo, h.hi, fun x hx => ?_⟩
  obtain ⟨k, hk, rfl⟩ := List.getElem_of_mem hx
  simp only [Rg.put, List.getElem_mapIdx]
  have hk2 : k < r.bs.length := by rw [put_len] at hk; exact hk
  split
  · rw [List.getD]
    cases e : vs[r.pl + k - a]? with
    | none => exact h.bys _ (List.getElem_mem hk2)
    | some y => exact hv _ (List.mem_of_getElem? e)
  · exact h.bys _ (List.getElem_mem hk2)
theorem upd_num {l : List Rg} (h : ∀ r ∈ l, RgIn r) (a : Nat) {vs : List Nat} (hv : Bys vs) : ∀ r ∈ upd l a vs, RgIn r := fun r hr => by
  obtain ⟨s, hs, rfl⟩ := List.mem_map.1 hr
  exact put_num (h s hs) a hv
theorem plc_upd (l : List Rg) (q : Int) (x a : Nat) (vs : List Nat) : plc (upd l a vs) q x = plc l q x := by
  unfold plc upd
  rw [List.findIdx?_map]
  congr 1
  funext r
  simp only [Function.comp, hitB, put_top]; rfl
theorem num_of {w : World} {A : Option Addr} {l : List Rg} (h : RowOf RgAt 3 w A l) : ∀ r ∈ l, RgIn r := fun r hr => by
  obtain ⟨i, hi, rfl⟩ := List.getElem_of_mem hr
  obtain ⟨b, o, _, s, hs, _⟩ := h.at hi
  exact hs.num
theorem set_one {bs : List Nat} {off : Nat} (y : Nat) (h : off < bs.length) : bs.set off y = putB bs off [y] := by
  have := putB_snoc (bs := bs) (off := off) (vs := []) y (by simpa using h)
  rw [putB_nil] at this
  simpa using this
/-- One byte more is put. -/
theorem MRows.byte {lw lp : List Rg} (hL : Lnk lw lp) {w : World} {B : Nat} {M : Lo} {a k v i : Nat} (h : MRows w B M (upd lw a (bytesN k v))) (hi : i < lw.length) (hx : hitB lw[i] (a + k) = true) {w5 : World} (hf : Fr w w5) :
    MRows (w5.setCell ⟨M.G i, a + k - (lw[i]).pl, none⟩ (u8n (v / 256 ^ k % 256))) B M (upd lw a (bytesN (k + 1) v)) := by
  have h5 := h.fr hf
  have hi' : i < (upd lw a (bytesN k v)).length := by rw [upd_len]; exact hi
  have hin := hx
  simp only [hitB, Bool.and_eq_true, decide_eq_true_eq] at hin
  have htp : (lw[i]).top = (lw[i]).pl + (lw[i]).bs.length := rfl
  have hb := h5.bytes i hi'
  rw [upd_at hi hi'] at hb
  have hd : a + k - (lw[i]).pl < ((lw[i]).put a (bytesN k v)).bs.length := by rw [put_len]; omega
  have hset := hb.set hd (v / 256 ^ k % 256)
  rw [set_one _ hd] at hset
  have hput := put_in (lw[i]) a k (a + k - (lw[i]).pl) 1 v (by omega)
  rw [show bytesN 1 (v / 256 ^ k) = [v / 256 ^ k % 256] from rfl] at hput
  rw [hput] at hset
  have hk : Kp (fun y => y = M.G i) w5 (w5.setCell ⟨M.G i, a + k - (lw[i]).pl, none⟩ (u8n (v / 256 ^ k % 256))) := Kp.set (S := fun y => y = M.G i) (Kp.refl _ _) (.inl rfl) _
  refine h5.turn hk (fun h0 e => h5.apr i hi' e.symm) (by rw [upd_len, upd_len]) (fun t ht ht' => ?_) fun t ht => ?_
  · rw [upd_len] at ht
    rw [upd_at ht (by rw [upd_len]; exact ht), upd_at ht (by rw [upd_len]; exact ht)]
    exact ⟨rfl, rfl, by rw [put_len, put_len]⟩
  · rw [upd_len] at ht
    rw [upd_at ht (by rw [upd_len]; exact ht)]
    by_cases hti : t = i
    · subst hti; exact hset
    · have h1 := h5.bytes t (by rw [upd_len]; exact ht)
      rw [upd_at ht (by rw [upd_len]; exact ht), put_out _ a k 1 v (hL.unq hi ht hti hx)] at h1
      exact h1.kp hk fun e => hti (h5.one t i (by rw [upd_len]; exact ht) hi' e)
def RelS2 (lw : List Rg) (a N v : Nat) (M : Lo) (w : World) (y z : Value) (wr : World) : Prop := ∃ k : Nat, z = .int .i64 (k : Int) ∧ k ≤ N ∧ y = .int .u64 ((v / 256 ^ k : Nat) : Int) ∧ MRows wr w.heap.size M (upd lw a (bytesN k v)) ∧ Fr w wr
/-- What Store answers. -/
def StoP (lw lp : List Rg) (a : Nat) (n : Int) (v : Nat) (A : Option Addr) (c : Nat) (w : World) (e : Ending) (w' : World) : Prop :=
  (hldB lp a n 2 = false ∧ e = .returned (.tuple #[.slice A lw.length c, .bool false])) ∨
  (hldB lp a n 2 = true ∧ ∃ M : Lo, e = .returned (.tuple #[.slice M.A lw.length M.cr, .bool true]) ∧ MRows w' w.heap.size M (upd lw a (bytesN n.toNat v)))
set_option maxHeartbeats 6400000 in
set_option maxRecDepth 100000 in
theorem rstore_any {lw lp : List Rg} (hL : Lnk lw lp) (A : Option Addr) (c : Nat) (w : World) (hA : RowOf RgAt 3 w A lw) (hlen : lw.length ≤ 64) (hsm : ∀ r ∈ lw, r.bs.length ≤ 67108864) (a : Nat) (ha : a < 18446744073709551616) (n : Int) (v : Nat) (hv : v < 18446744073709551616) :
    Calls Try.prog 14 #[.slice A lw.length c, .int .u64 (a : Int), .int .i64 n, .int .u64 (v : Int)] w fun e w' => StoP lw lp a n v A c w e w' ∧ Fr w w' := by
  by_cases hin : 1 ≤ n ∧ n ≤ 8
  · obtain ⟨hi1, hi8⟩ := hin
    obtain ⟨N, rfl⟩ : ∃ N : Nat, n = (N : Int) := ⟨n.toNat, by omega⟩
    have HLD := Lib.hid (hld_eq hL.good a N 2 (by omega) (by omega) (by omega) (by omega))
    have HA := Lib.hid hA
    have HSM := Lib.hid hsm
    have HL := Lib.hid hL
    have HNUM := Lib.hid (num_of hA)
    have HPL := Lib.hid (fun (w1 : World) (k : Fr w w1) (x : Nat) (hx : x < 18446744073709551616) => place_any A lw c w1 (hA.fr fun _ _ _ h => h.fr k) hlen hsm x hx 2 (.inr (.inl rfl)))
    have HCP := Lib.hid (fun (w1 : World) (k : Fr w w1) => copyW_any A lw c w1 (hA.fr fun _ _ _ h => h.fr k) (by omega) fun r hr => Nat.le_trans (hsm r hr) (by decide))
    clear hA hL hsm
    go_enter Try.func14, Try.ntmps14
    go_wp2
    go_loopw [10] (fun z wr => RelHo lp 2 a N w z wr) (fun z _ => N - (intOf z).toNat)
    case atStart => exact ⟨0, rfl, by omega, fun j h => by omega, Fr.refl w⟩
    case round =>
      obtain ⟨k, rfl, hk, hall, hf⟩ := hrel
      have HF := Lib.hid hf
      have HAL := Lib.hid hall
      clear hf hall
      by_cases hkN : k < N
      · have hkn : (k : Int) < (N : Int) := by omega
        have hfail : cel lp 2 (a + k) = none → hldB lp a (N : Int) 2 = false := fun h => by
          cases hh : hldB lp a (N : Int) 2 with
          | false => rfl
          | true => have := HLD.out.1 hh k hkN; rw [h] at this; cases this
        have HFL := Lib.hid hfail
        obtain ⟨a', ha'⟩ : ∃ a', (a + k) % 18446744073709551616 = a' := ⟨_, rfl⟩
        have ha2 : a' < 18446744073709551616 := by omega
        have hwr : IntKind.u64.wrap ((a : Int) + (k : Int)) = (a' : Int) := by
          rw [wrap64]; omega
        have HP := Lib.hid (HPL.out wr HF.out a' ha2)
        clear hfail
        by_cases hb : a + k < 18446744073709551616
        · obtain rfl : a' = a + k := by omega
          have hwr2 : IntKind.u64.wrap ((a : Int) + (k : Int)) = (a : Int) + (k : Int) := by rw [hwr]; omega
          clear hwr
          cases hpc : plc lw 2 (a + k) with
          | none =>
            have HN := Lib.hid (HFL.out (plc_none HL.out (.inr (.inl rfl)) hpc))
            rw [hpc] at HP
            clear hk hkN
            go_wp2_with (go_at_call 29; refine HP.out.mono ?_; rintro e w5 ⟨rfl, hf5⟩; have HF5 := Lib.hid hf5; clear hf5; simp only [plcV])
            go_ret2
            exact ⟨.inl ⟨HN.out, rfl⟩, HF.out.call HF5.out⟩
          | some i =>
            obtain ⟨hi, q1, q2, q3⟩ := plc_some HL.out (.inr (.inl rfl)) hpc
            have htp : (lw[i]).top = (lw[i]).pl + (lw[i]).bs.length := rfl
            have HS := Lib.hid (show (cel lp 2 (a + k)).isSome = true by rw [q3, List.getElem?_eq_getElem (by omega)]; rfl)
            rw [hpc] at HP
            clear hpc q1 q2 q3 htp
            go_wp2_with (go_at_call 29; refine HP.out.mono ?_; rintro e w5 ⟨rfl, hf5⟩; have HF5 := Lib.hid hf5; clear hf5; simp only [plcV])
            go_roundw
            case rel => exact ⟨k + 1, rfl, by omega, fun j hj => by
              by_cases e : j = k
              · subst e; exact HS.out
              · exact HAL.out j (by omega), HF.out.call HF5.out⟩
            case measure => simp [intOf]; omega
        · have HN := Lib.hid (HFL.out (cel_over HL.out.good 2 (show 18446744073709551616 ≤ a + k by omega)))
          have hlt : a' < a := by omega
          have hlti : (a' : Int) < (a : Int) := by omega
          clear ha' hk hkN
          cases hpc : plc lw 2 a' with
          | none =>
            rw [hpc] at HP
            go_wp2_with (go_at_call 29; refine HP.out.mono ?_; rintro e w5 ⟨rfl, hf5⟩; have HF5 := Lib.hid hf5; clear hf5; simp only [plcV])
            go_ret2
            exact ⟨.inl ⟨HN.out, rfl⟩, HF.out.call HF5.out⟩
          | some i =>
            rw [hpc] at HP
            go_wp2_with (go_at_call 29; refine HP.out.mono ?_; rintro e w5 ⟨rfl, hf5⟩; have HF5 := Lib.hid hf5; clear hf5; simp only [plcV])
            go_ret2
            exact ⟨.inl ⟨HN.out, rfl⟩, HF.out.call HF5.out⟩
      · obtain rfl : k = N := by omega
        have HD := Lib.hid (HLD.out.2 HAL.out)
        clear hk hkN
        go_wp2_with (go_at_call 8; refine (HCP.out _ HF.out).mono ?_; rintro e w5 ⟨M, rfl, hm, hf5⟩; have HF5 := Lib.hid (HF.out.call hf5); have HM5 := Lib.hid (hm.base HF.out.size); clear hm hf5)
        go_loopw [3, 15] (fun y z wr2 => RelS2 lw a k v M w y z wr2) (fun _ z _ => k - (intOf z).toNat)
        case atStart => exact ⟨0, rfl, by omega, by simp, by rw [show bytesN 0 v = [] from rfl, upd_nil]; exact HM5.out, HF5.out⟩
        case round =>
          obtain ⟨j, rfl, hj, rfl, hm, hf2⟩ := hrel
          have HF2 := Lib.hid hf2
          have HM := Lib.hid hm
          by_cases hjk : j < k
          · have hji : (j : Int) < (k : Int) := by omega
            have hsm := HAL.out j hjk
            have hb : a + j < 18446744073709551616 := by
              rcases Nat.lt_or_ge (a + j) 18446744073709551616 with h | h
              · exact h
              · rw [cel_over HL.out.good 2 h] at hsm; cases hsm
            have hwr2 : IntKind.u64.wrap ((a : Int) + (j : Int)) = (a : Int) + (j : Int) := by rw [wrap64]; omega
            cases hpc : plc lw 2 (a + j) with
            | none => rw [plc_none HL.out (.inr (.inl rfl)) hpc] at hsm; cases hsm
            | some i =>
              obtain ⟨hi, q1, q2, q3⟩ := plc_some HL.out (.inr (.inl rfl)) hpc
              have htp : (lw[i]).top = (lw[i]).pl + (lw[i]).bs.length := rfl
              have hit : hitB lw[i] (a + j) = true := by simp only [hitB, Bool.and_eq_true, decide_eq_true_eq]; exact ⟨q1, q2⟩
              have hi' : i < (upd lw a (bytesN j v)).length := by rw [upd_len]; exact hi
              have hP := place_any M.A (upd lw a (bytesN j v)) M.cr wr (hm.row (upd_num HNUM.out a (bytesN_bys j v))) (by rw [upd_len]; exact hlen) (fun r hr => by
                obtain ⟨s, hs, rfl⟩ := List.mem_map.1 hr
                rw [put_len]; exact HSM.out s hs) (a + j) hb 2 (.inr (.inl rfl))
              rw [plc_upd, hpc, upd_len] at hP
              have hpv : plcV (upd lw a (bytesN j v)) (a + j) (some i) = .tuple #[.int .i64 (i : Int), .int .i64 ((a + j - (lw[i]).pl : Nat) : Int)] := by
                simp only [plcV, List.getD, List.getElem?_eq_getElem hi', Option.getD_some, upd_at hi hi']; rfl
              rw [hpv] at hP
              have HP := Lib.hid hP
              have hAd := hm.addr (by omega)
              have r2 := hm.row2 i hi'
              have hby := hm.bytes i hi'
              rw [upd_at hi hi'] at r2 hby
              rw [put_len] at r2
              have hd : a + j - (lw[i]).pl < (lw[i]).bs.length := by omega
              obtain ⟨cb, fb⟩ := hby _ _ (List.getElem?_eq_getElem (show a + j - (lw[i]).pl < ((lw[i]).put a (bytesN j v)).bs.length by rw [put_len]; exact hd))
              have HBY := Lib.hid (fun (w5 : World) (h : Fr wr w5) => MRows.byte HL.out hm hi hit h)
              have hng := (hm.newg i hi').1
              have hq2 : v / 256 ^ j / 256 = v / 256 ^ (j + 1) := by rw [Nat.div_div_eq_div_mul, Nat.pow_succ]
              have HQ := Lib.hid hq2
              have hq3 : v / 256 ^ j ≤ v := Nat.div_le_self _ _
              generalize ((lw[i]).put a (bytesN j v)).bs[a + j - (lw[i]).pl]'(by rw [put_len]; exact hd) = x at cb
              unfold u8n at cb
              generalize (lw[i]).bs.length = nn at *
              generalize a + j - (lw[i]).pl = d at *
              generalize v / 256 ^ j = q at *
              have hii : (i : Int) < (lw.length : Int) := by omega
              have hdi : (d : Int) < (nn : Int) := by omega
              have e2 := fun ww (kk : Fr wr ww) => kk.get r2
              have eb := fun ww (kk : Fr wr ww) => kk.get cb
              have ef := fun ww (kk : Fr wr ww) => kk.free cb fb
              have E2 := Lib.hid e2
              have EB := Lib.hid eb
              have EF := Lib.hid ef
              clear hm hsm hpc q1 q2 q3 htp hit hP hpv r2 hby cb fb e2 eb ef hf2 hq2
              obtain ⟨bm, br, cr, A', G, C⟩ := M
              simp only at hAd
              subst hAd
              go_wp2_with (go_at_call 29; refine HP.out.mono ?_; rintro e w6 ⟨rfl, hf6⟩; have HF6 := Lib.hid hf6; have d2 := E2.out _ hf6; have db := EB.out _ hf6; have df := EF.out _ hf6; clear hf6; simp only at d2 db df)
              go_roundw
              case rel =>
                refine ⟨j + 1, rfl, by omega, ?_, ?_, ?_⟩
                · exact congrArg (Value.int .u64) (by rw [← HQ.out]; omega)
                · have h := HBY.out _ HF6.out
                  refine Eq.mp (congrArg (fun z => MRows (World.setCell w6 ⟨G i, d, none⟩ z) _ _ _) ?_) h
                  exact congrArg (Value.int .u8) (by omega)
                · exact (Kp.set (S := fun _ => False) (Kp.of (HF2.out.call HF6.out)) (.inr hng) _).to fun x hx => hx.elim
              case measure => simp [intOf]; omega
          · obtain rfl : j = k := by omega
            go_wp2
            go_ret2
            exact ⟨.inr ⟨HD.out, M, rfl, HM.out⟩, HF2.out⟩
  · have HN := Lib.hid (show hldB lp a n 2 = false by
      cases hh : hldB lp a n 2 with
      | false => rfl
      | true => unfold hldB at hh; simp only [Bool.and_eq_true, decide_eq_true_eq] at hh; exact absurd hh.1.1 hin)
    clear hA hL hsm
    by_cases q1 : 1 ≤ n
    · have q4 : 8 < n := by omega
      go_enter Try.func14, Try.ntmps14
      go_wp2
      go_ret2
      exact ⟨.inl ⟨HN.out, rfl⟩, Fr.refl _⟩
    · have q4 : n < 1 := by omega
      go_enter Try.func14, Try.ntmps14
      go_wp2
      go_ret2
      exact ⟨.inl ⟨HN.out, rfl⟩, Fr.refl _⟩
end Go.Proofs.Ytelfokoibmpdlaa
