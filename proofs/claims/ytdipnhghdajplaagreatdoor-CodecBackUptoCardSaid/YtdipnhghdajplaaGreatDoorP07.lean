/- Lists, numbers and texts that are reckoned out before they are handed on; each is what it says without that. -/
import GoSem.Core.Value
import GoSem.Machine.Frame
namespace Go.Proofs.YtdipnhghdajplaaGreatDoor
set_option linter.unusedSimpArgs false
set_option linter.unusedVariables false
section
variable {α β : Type}
def nfN (m : Nat) (k : Nat → α) : α := Nat.rec (k 0) (fun n _ => k (Nat.succ n)) m
def nfI (n : Int) (k : Int → α) : α := match n with
 | .ofNat m => nfN m fun m' => k (.ofNat m')
 | .negSucc m => nfN m fun m' => k (.negSucc m')
def nfB (b : Bool) (k : Bool → α) : α := match b with
 | true => k true
 | false => k false
def nfU (u : UInt8) (k : UInt8 → α) : α := nfN u.toNat fun n => k (UInt8.ofNat n)
noncomputable def nfBs (l : List UInt8) (k : List UInt8 → α) : α :=
 List.rec (motive := fun _ => (List UInt8 → α) → α) (fun k => k []) (fun c _ ih k => nfU c fun c' => ih fun r' => k (c' :: r')) l k
noncomputable def nfS (s : ByteArray) (k : ByteArray → α) : α := nfBs s.data.toList fun l => k ⟨l.toArray⟩
def nfK (i : IntKind) (k : IntKind → α) : α := match i with
 | .i8 => k .i8 | .i16 => k .i16 | .i32 => k .i32 | .i64 => k .i64 | .u8 => k .u8 | .u16 => k .u16 | .u32 => k .u32 | .u64 => k .u64
noncomputable def nfV (v : Value) (k : Value → α) : α := match v with
 | .bool b => nfB b fun b' => k (.bool b')
 | .int i n => nfK i fun i' => nfI n fun n' => k (.int i' n')
 | .string s => nfS s fun s' => k (.string s')
 | v => k v
noncomputable def getC (l : List β) (d : β) (i : Nat) (k : β → α) : α :=
 List.rec (motive := fun _ => Nat → α) (fun _ => k d) (fun x _ ih i => Nat.rec (motive := fun _ => α) (k x) (fun j _ => ih j) i) l i
noncomputable def cellC (l : List β) (i : Nat) (k : β → α) (no : α) : α :=
 List.rec (motive := fun _ => Nat → α) (fun _ => no) (fun x _ ih i => Nat.rec (motive := fun _ => α) (k x) (fun j _ => ih j) i) l i
noncomputable def setC (l : List β) (i : Nat) (v : β) (k : List β → α) : α :=
 List.rec (motive := fun _ => Nat → (List β → α) → α) (fun _ k => k []) (fun x r ih i k => Nat.rec (motive := fun _ => α) (k (v :: r)) (fun j _ => ih j fun r' => k (x :: r')) i) l i k
noncomputable def takeC (l : List β) (i : Nat) (k : List β → α) : α :=
 List.rec (motive := fun _ => Nat → (List β → α) → α) (fun _ k => k []) (fun x _ ih i k => Nat.rec (motive := fun _ => α) (k []) (fun j _ => ih j fun r' => k (x :: r')) i) l i k
noncomputable def dropC (l : List β) (i : Nat) (k : List β → α) : α :=
 List.rec (motive := fun _ => Nat → α) (fun _ => k []) (fun x r ih i => Nat.rec (motive := fun _ => α) (k (x :: r)) (fun j _ => ih j) i) l i
noncomputable def appC (l m : List β) (k : List β → α) : α :=
 List.rec (motive := fun _ => (List β → α) → α) (fun k => k m) (fun x _ ih k => ih fun r' => k (x :: r')) l k
noncomputable def lenC (l : List β) (n : Nat) (k : Nat → α) : α :=
 List.rec (motive := fun _ => Nat → α) (fun n => k n) (fun _ _ ih n => nfN (Nat.succ n) fun n' => ih n') l n
@[simp] theorem nfN_eq (m : Nat) (k : Nat → α) : nfN m k = k m := by cases m <;> rfl
@[simp] theorem nfI_eq (n : Int) (k : Int → α) : nfI n k = k n := by cases n <;> simp [nfI]
@[simp] theorem nfB_eq (b : Bool) (k : Bool → α) : nfB b k = k b := by cases b <;> rfl
@[simp] theorem nfU_eq (u : UInt8) (k : UInt8 → α) : nfU u k = k u := by simp [nfU]
@[simp] theorem nfBs_eq (l : List UInt8) (k : List UInt8 → α) : nfBs l k = k l := by
 induction l generalizing k with
 | nil => rfl
 | cons c r ih => exact (nfU_eq c fun c' => nfBs r fun r' => k (c' :: r')).trans (ih fun r' => k (c :: r'))
@[simp] theorem nfS_eq (s : ByteArray) (k : ByteArray → α) : nfS s k = k s := by simp [nfS]
@[simp] theorem nfK_eq (i : IntKind) (k : IntKind → α) : nfK i k = k i := by cases i <;> rfl
@[simp] theorem nfV_eq (v : Value) (k : Value → α) : nfV v k = k v := by cases v <;> simp [nfV]
@[simp] theorem getC_eq (l : List β) (d : β) (i : Nat) (k : β → α) : getC l d i k = k (l.getD i d) := by
 induction l generalizing i with
 | nil => simp [getC]
 | cons x r ih => cases i with
   | zero => rfl
   | succ i => exact (ih i).trans (by simp)
theorem cellC_eq (l : List β) (i : Nat) (k : β → α) (no : α) : cellC l i k no = (match l[i]? with | some v => k v | none => no) := by
 induction l generalizing i with
 | nil => simp [cellC]
 | cons x r ih => cases i with
   | zero => rfl
   | succ i => exact (ih i).trans (by simp)
@[simp] theorem setC_eq (l : List β) (i : Nat) (v : β) (k : List β → α) : setC l i v k = k (l.set i v) := by
 induction l generalizing i k with
 | nil => simp [setC]
 | cons x r ih => cases i with
   | zero => rfl
   | succ i => exact ih i _
@[simp] theorem takeC_eq (l : List β) (i : Nat) (k : List β → α) : takeC l i k = k (l.take i) := by
 induction l generalizing i k with
 | nil => simp [takeC]
 | cons x r ih => cases i with
   | zero => rfl
   | succ i => exact ih i _
@[simp] theorem dropC_eq (l : List β) (i : Nat) (k : List β → α) : dropC l i k = k (l.drop i) := by
 induction l generalizing i with
 | nil => simp [dropC]
 | cons x r ih => cases i with
   | zero => rfl
   | succ i => exact ih i
@[simp] theorem appC_eq (l m : List β) (k : List β → α) : appC l m k = k (l ++ m) := by
 induction l generalizing k with
 | nil => rfl
 | cons x r ih => exact ih _
@[simp] theorem lenC_eq (l : List β) (n : Nat) (k : Nat → α) : lenC l n k = k (n + l.length) := by
 induction l generalizing n with
 | nil => rfl
 | cons x r ih =>
   refine (nfN_eq (n + 1) (fun n' => lenC r n' k)).trans ((ih (n + 1)).trans ?_)
   simp only [List.length_cons]
   congr 1; omega
inductive Tr where
 | leaf
 | node (v : Value) (l r : Tr)
noncomputable def getT (t : Tr) (i : Nat) (k : Value → α) (no : α) : α :=
 Tr.rec (motive := fun _ => Nat → α) (fun _ => no) (fun v _ _ ihl ihr i => Nat.rec (motive := fun _ => α) (k v) (fun j _ => Nat.rec (motive := fun _ => α) (ihl (Nat.div j 2)) (fun _ _ => ihr (Nat.div j 2)) (Nat.mod j 2)) i) t i
noncomputable def setT (t : Tr) (i : Nat) (v : Value) (k : Tr → α) : α :=
 Tr.rec (motive := fun _ => Nat → (Tr → α) → α) (fun _ k => k .leaf) (fun x l r ihl ihr i k => Nat.rec (motive := fun _ => α) (k (.node v l r))
   (fun j _ => Nat.rec (motive := fun _ => α) (ihl (Nat.div j 2) fun l' => k (.node x l' r)) (fun _ _ => ihr (Nat.div j 2) fun r' => k (.node x l r')) (Nat.mod j 2)) i) t i k
noncomputable def mkT (n : Nat) (vs : List Value) (f a b : Nat) (k : Tr → α) : α :=
 Nat.rec (motive := fun _ => Nat → Nat → (Tr → α) → α) (fun _ _ k => k .leaf)
   (fun _ ih a b k => if a < n then getC vs undef a fun v => nfN (a + b) fun a1 => nfN (a + 2 * b) fun a2 => nfN (2 * b) fun b2 => ih a1 b2 fun l => ih a2 b2 fun r => k (.node v l r) else k .leaf) f a b k
noncomputable def look (t : Tr) (i : Nat) : Option Value := getT t i some none
def RT (t : Tr) (T : List Value) : Prop := ∀ i, T[i]? = look t i
theorem look_zero (v : Value) (l r : Tr) : look (.node v l r) 0 = some v := rfl
theorem look_odd (v : Value) (l r : Tr) (m : Nat) : look (.node v l r) (2 * m + 1) = look l m := by
 show Nat.rec (motive := fun _ => Option Value) (getT l (Nat.div (2 * m) 2) some none) (fun _ _ => getT r (Nat.div (2 * m) 2) some none) (Nat.mod (2 * m) 2) = _
 rw [show Nat.mod (2 * m) 2 = 0 from Nat.mul_mod_right 2 m, show Nat.div (2 * m) 2 = m from Nat.mul_div_cancel_left m (by decide)]
 rfl
theorem look_even (v : Value) (l r : Tr) (m : Nat) : look (.node v l r) (2 * m + 2) = look r m := by
 show Nat.rec (motive := fun _ => Option Value) (getT l (Nat.div (2 * m + 1) 2) some none) (fun _ _ => getT r (Nat.div (2 * m + 1) 2) some none) (Nat.mod (2 * m + 1) 2) = _
 rw [show Nat.mod (2 * m + 1) 2 = 1 from (by show (2 * m + 1) % 2 = 1; omega), show Nat.div (2 * m + 1) 2 = m from (by show (2 * m + 1) / 2 = m; omega)]
 rfl
theorem parity (i : Nat) : i = 0 ∨ (∃ m, i = 2 * m + 1) ∨ ∃ m, i = 2 * m + 2 := by
 rcases Nat.eq_zero_or_pos i with h | h
 · exact .inl h
 · rcases Nat.mod_two_eq_zero_or_one i with h2 | h2
   · exact .inr (.inr ⟨i / 2 - 1, by omega⟩)
   · exact .inr (.inl ⟨i / 2, by omega⟩)
theorem getT_eq (t : Tr) (i : Nat) (k : Value → α) (no : α) : getT t i k no = (match look t i with | some v => k v | none => no) := by
 induction t generalizing i with
 | leaf => rfl
 | node v l r ihl ihr =>
   rcases parity i with rfl | ⟨m, rfl⟩ | ⟨m, rfl⟩
   · rfl
   · rw [look_odd, ← ihl]
     show Nat.rec (motive := fun _ => α) (getT l (Nat.div (2 * m) 2) k no) (fun _ _ => getT r (Nat.div (2 * m) 2) k no) (Nat.mod (2 * m) 2) = _
     rw [show Nat.mod (2 * m) 2 = 0 from Nat.mul_mod_right 2 m, show Nat.div (2 * m) 2 = m from Nat.mul_div_cancel_left m (by decide)]
     rfl
   · rw [look_even, ← ihr]
     show Nat.rec (motive := fun _ => α) (getT l (Nat.div (2 * m + 1) 2) k no) (fun _ _ => getT r (Nat.div (2 * m + 1) 2) k no) (Nat.mod (2 * m + 1) 2) = _
     rw [show Nat.mod (2 * m + 1) 2 = 1 from (by show (2 * m + 1) % 2 = 1; omega), show Nat.div (2 * m + 1) 2 = m from (by show (2 * m + 1) / 2 = m; omega)]
     rfl
theorem setT_odd (x v : Value) (l r : Tr) (m : Nat) (k : Tr → α) : setT (.node x l r) (2 * m + 1) v k = setT l m v fun l' => k (.node x l' r) := by
 show Nat.rec (motive := fun _ => α) (setT l (Nat.div (2 * m) 2) v fun l' => k (.node x l' r)) (fun _ _ => setT r (Nat.div (2 * m) 2) v fun r' => k (.node x l r')) (Nat.mod (2 * m) 2) = _
 rw [show Nat.mod (2 * m) 2 = 0 from Nat.mul_mod_right 2 m, show Nat.div (2 * m) 2 = m from Nat.mul_div_cancel_left m (by decide)]
 rfl
theorem setT_even (x v : Value) (l r : Tr) (m : Nat) (k : Tr → α) : setT (.node x l r) (2 * m + 2) v k = setT r m v fun r' => k (.node x l r') := by
 show Nat.rec (motive := fun _ => α) (setT l (Nat.div (2 * m + 1) 2) v fun l' => k (.node x l' r)) (fun _ _ => setT r (Nat.div (2 * m + 1) 2) v fun r' => k (.node x l r')) (Nat.mod (2 * m + 1) 2) = _
 rw [show Nat.mod (2 * m + 1) 2 = 1 from (by show (2 * m + 1) % 2 = 1; omega), show Nat.div (2 * m + 1) 2 = m from (by show (2 * m + 1) / 2 = m; omega)]
 rfl
theorem setT_spec (t : Tr) (i : Nat) (v : Value) : ∃ t', (∀ {α : Type} (k : Tr → α), setT t i v k = k t') ∧ ∀ j, look t' j = if i = j ∧ (look t i).isSome then some v else look t j := by
 induction t generalizing i with
 | leaf => exact ⟨.leaf, fun k => rfl, fun j => by simp [show look .leaf i = none from rfl]⟩
 | node x l r ihl ihr =>
   rcases parity i with rfl | ⟨m, rfl⟩ | ⟨m, rfl⟩
   · refine ⟨.node v l r, fun k => rfl, fun j => ?_⟩
     rcases parity j with rfl | ⟨n, rfl⟩ | ⟨n, rfl⟩
     · simp [look_zero]
     · rw [look_odd, look_odd, if_neg (by omega)]
     · rw [look_even, look_even, if_neg (by omega)]
   · obtain ⟨t', h1, h2⟩ := ihl m
     refine ⟨.node x t' r, fun k => (setT_odd x v l r m k).trans (h1 _), fun j => ?_⟩
     rcases parity j with rfl | ⟨n, rfl⟩ | ⟨n, rfl⟩
     · rw [look_zero, look_zero, if_neg (by omega)]
     · rw [look_odd, look_odd, look_odd, h2]
       by_cases e : m = n
       · subst e; simp
       · rw [if_neg (by omega), if_neg (by omega)]
     · rw [look_even, look_even, if_neg (by omega)]
   · obtain ⟨t', h1, h2⟩ := ihr m
     refine ⟨.node x l t', fun k => (setT_even x v l r m k).trans (h1 _), fun j => ?_⟩
     rcases parity j with rfl | ⟨n, rfl⟩ | ⟨n, rfl⟩
     · rw [look_zero, look_zero, if_neg (by omega)]
     · rw [look_odd, look_odd, if_neg (by omega)]
     · rw [look_even, look_even, look_even, h2]
       by_cases e : m = n
       · subst e; simp
       · rw [if_neg (by omega), if_neg (by omega)]
theorem RT.set {t : Tr} {T : List Value} (h : RT t T) (i : Nat) (v : Value) : ∃ t', (∀ {α : Type} (k : Tr → α), setT t i v k = k t') ∧ RT t' (T.set i v) := by
 obtain ⟨t', h1, h2⟩ := setT_spec t i v
 refine ⟨t', h1, fun j => ?_⟩
 rw [h2, ← h j, ← h i, List.getElem?_set]
 by_cases e : i = j
 · subst e
   by_cases hl : i < T.length
   · simp [hl]
   · simp [hl]
 · rw [if_neg e, if_neg (by simp [e])]
theorem mkT_spec (n : Nat) (vs : List Value) : ∀ (f a b : Nat), n ≤ a + f → 0 < b → ∃ t, (∀ {α : Type} (k : Tr → α), mkT n vs f a b k = k t) ∧ ∀ j, look t j = if a + b * j < n then some (vs.getD (a + b * j) undef) else none
 | 0, a, b, h, hb => ⟨.leaf, fun k => rfl, fun j => by rw [if_neg (by have := Nat.zero_le (b * j); omega)]; rfl⟩
 | f + 1, a, b, h, hb => by
   by_cases ha : a < n
   · obtain ⟨l, l1, l2⟩ := mkT_spec n vs f (a + b) (2 * b) (by omega) (by omega)
     obtain ⟨r, r1, r2⟩ := mkT_spec n vs f (a + 2 * b) (2 * b) (by omega) (by omega)
     refine ⟨.node (vs.getD a undef) l r, fun {α} k => ?_, fun j => ?_⟩
     · show (if a < n then getC vs undef a fun v => nfN (a + b) fun a1 => nfN (a + 2 * b) fun a2 => nfN (2 * b) fun b2 => mkT n vs f a1 b2 fun l => mkT n vs f a2 b2 fun r => k (.node v l r) else k .leaf) = _
       rw [if_pos ha]
       simp only [getC_eq, nfN_eq, l1, r1]
     · rcases parity j with rfl | ⟨m, rfl⟩ | ⟨m, rfl⟩
       · rw [look_zero, Nat.mul_zero, Nat.add_zero, if_pos ha]
       · rw [look_odd, l2, show a + b * (2 * m + 1) = a + b + 2 * b * m by rw [Nat.mul_add, Nat.mul_one, ← Nat.mul_assoc, Nat.mul_comm b 2]; omega]
       · rw [look_even, r2, show a + b * (2 * m + 2) = a + 2 * b + 2 * b * m by rw [Nat.mul_add, ← Nat.mul_assoc, Nat.mul_comm b 2]; omega]
   · refine ⟨.leaf, fun {α} k => ?_, fun j => ?_⟩
     · show (if a < n then _ else k .leaf) = _
       rw [if_neg ha]
     · rw [if_neg (by have := Nat.zero_le (b * j); omega)]; rfl
end
end Go.Proofs.YtdipnhghdajplaaGreatDoor
