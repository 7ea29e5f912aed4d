/- Texts S G ZP R FA Z Nm. -/
import Derived.WalkKit
import Derived.Test.YtlnapfeglbdecaaProg
import Derived.WalkSpells
import Derived.WalkLawsBesides
import Derived.Maps.AppendAt
import Derived.Deep.AppendLies
import Derived.Laws.BytesArg
import Derived.Deep.QuietTactic
import Derived.BigQuiet
import Derived.Deep.RegionHeld3
import Derived.Laws.Tables
import Derived.Great.Walk
import Derived.Deep.Cut
import Derived.Deep.MidRow
namespace Go.Proofs.Ytlnapfeglbdecaa

def AllBytes (l : List Int) : Prop := ∀ x ∈ l, 0 ≤ x ∧ x ≤ 255
structure IN where
  pl : Int
  op : Int
  a : Int
  b : Int

def kd (op : Int) : Nat :=
  if op = 132 then 7 else if (153 ≤ op ∧ op ≤ 167) ∨ op = 198 ∨ op = 199 then 6 else if op = 17 then 5
  else if (178 ≤ op ∧ op ≤ 182) ∨ op = 184 ∨ op = 187 ∨ op = 189 ∨ op = 192 ∨ op = 193 then 4
  else if op = 16 then 3 else if op = 18 ∨ op = 21 ∨ op = 25 ∨ op = 54 ∨ op = 58 ∨ op = 188 then 2
  else if (0 ≤ op ∧ op ≤ 8) ∨ op = 46 ∨ op = 50 ∨ op = 79 ∨ op = 83 ∨ op = 87 ∨ op = 89 ∨ op = 95 ∨ op = 96 ∨ op = 100 ∨ op = 104 ∨ op = 108 ∨ op = 112 ∨ op = 116 ∨ op = 120 ∨ op = 122 ∨ op = 124 ∨ op = 126 ∨ op = 128 ∨ op = 130 ∨ op = 172 ∨ op = 176 ∨ op = 177 ∨ op = 190 ∨ op = 191 ∨ op = 194 ∨ op = 195 then 1 else 0
def szK : Nat → Nat
  | 0 => 0 | 1 => 1 | 2 => 2 | 3 => 2 | _ => 3
def sz (op : Int) : Nat := szK (kd op)
theorem kd_le (op : Int) : kd op ≤ 7 := by
  unfold kd
  repeat' split
  all_goals omega
theorem kd_byte {op : Int} (h : kd op ≠ 0) : 0 ≤ op ∧ op ≤ 255 := by
  unfold kd at h
  repeat' split at h
  all_goals omega
theorem kd_six (op : Int) : kd op = 6 ↔ (153 ≤ op ∧ op ≤ 167) ∨ op = 198 ∨ op = 199 := by
  unfold kd
  constructor
  · intro h
    repeat' split at h
    all_goals first | assumption | omega
  · intro h
    rw [if_neg (by omega), if_pos h]
theorem sz_le (op : Int) : sz op ≤ 3 := by
  unfold sz szK
  split <;> omega
theorem sz_zero (op : Int) : sz op = 0 ↔ kd op = 0 := by
  unfold sz szK
  split <;> simp_all
def fits (i : IN) : Prop :=
  match kd i.op with
  | 7 => (0 ≤ i.a ∧ i.a ≤ 255) ∧ -128 ≤ i.b ∧ i.b ≤ 127
  | 6 => i.b = 0 ∧ -32768 ≤ i.a - i.pl ∧ i.a - i.pl ≤ 32767
  | 5 => i.b = 0 ∧ -32768 ≤ i.a ∧ i.a ≤ 32767
  | 4 => i.b = 0 ∧ 0 ≤ i.a ∧ i.a ≤ 65535
  | 3 => i.b = 0 ∧ -128 ≤ i.a ∧ i.a ≤ 127
  | 2 => i.b = 0 ∧ 0 ≤ i.a ∧ i.a ≤ 255
  | _ => i.a = 0 ∧ i.b = 0
def oneB (i : IN) : List Int :=
  match kd i.op with
  | 7 => [i.op, i.a % 256, i.b % 256]
  | 6 => [i.op, (i.a - i.pl) / 256 % 256, (i.a - i.pl) % 256]
  | 5 => [i.op, i.a / 256 % 256, i.a % 256]
  | 4 => [i.op, i.a / 256 % 256, i.a % 256]
  | 3 => [i.op, i.a % 256]
  | 2 => [i.op, i.a % 256]
  | _ => [i.op]
def s8 (x : Int) : Int := if 128 ≤ x then x - 256 else x
def s16 (x : Int) : Int := if 32768 ≤ x then x - 65536 else x
def inst (p : Int) (op : Int) (t : List Int) : IN :=
  match kd op with
  | 7 => ⟨p, op, t.getD 0 0, s8 (t.getD 1 0)⟩
  | 6 => ⟨p, op, s16 (t.getD 0 0 * 256 + t.getD 1 0) + p, 0⟩
  | 5 => ⟨p, op, s16 (t.getD 0 0 * 256 + t.getD 1 0), 0⟩
  | 4 => ⟨p, op, t.getD 0 0 * 256 + t.getD 1 0, 0⟩
  | 3 => ⟨p, op, s8 (t.getD 0 0), 0⟩
  | 2 => ⟨p, op, t.getD 0 0, 0⟩
  | _ => ⟨p, op, 0, 0⟩
theorem kd_cases (op : Int) : kd op = 0 ∨ kd op = 1 ∨ kd op = 2 ∨ kd op = 3 ∨ kd op = 4 ∨ kd op = 5 ∨ kd op = 6 ∨ kd op = 7 := by have := kd_le op; omega
theorem one_len (i : IN) (h : kd i.op ≠ 0) : (oneB i).length = sz i.op := by
  unfold oneB sz
  rcases kd_cases i.op with e | e | e | e | e | e | e | e
  · exact absurd e h
  all_goals rw [e]; rfl
theorem inst_one (i : IN) (h : kd i.op ≠ 0) (hf : fits i) (R : List Int) : ∃ t, oneB i = i.op :: t ∧ t.length + 1 = sz i.op ∧ inst i.pl i.op (t ++ R) = i := by
  obtain ⟨p, op, a, b⟩ := i
  unfold fits at hf
  unfold oneB inst sz
  simp only at *
  rcases kd_cases op with e | e | e | e | e | e | e | e
  · exact absurd e h
  · rw [e] at hf ⊢
    simp only at hf ⊢
    exact ⟨[], rfl, rfl, by simp [hf.1, hf.2]⟩
  · rw [e] at hf ⊢
    simp only at hf ⊢
    refine ⟨[a % 256], rfl, rfl, ?_⟩
    simp only [List.cons_append, List.nil_append, List.getD_cons_zero]
    rw [show a % 256 = a by omega, hf.1]
  · rw [e] at hf ⊢
    simp only at hf ⊢
    refine ⟨[a % 256], rfl, rfl, ?_⟩
    simp only [List.cons_append, List.nil_append, List.getD_cons_zero]
    rw [show s8 (a % 256) = a by unfold s8; split <;> omega, hf.1]
  · rw [e] at hf ⊢
    simp only at hf ⊢
    refine ⟨[a / 256 % 256, a % 256], rfl, rfl, ?_⟩
    simp only [List.cons_append, List.nil_append, List.getD_cons_zero, List.getD_cons_succ]
    rw [show a / 256 % 256 * 256 + a % 256 = a by omega, hf.1]
  · rw [e] at hf ⊢
    simp only at hf ⊢
    refine ⟨[a / 256 % 256, a % 256], rfl, rfl, ?_⟩
    simp only [List.cons_append, List.nil_append, List.getD_cons_zero, List.getD_cons_succ]
    rw [show s16 (a / 256 % 256 * 256 + a % 256) = a by unfold s16; split <;> omega, hf.1]
  · rw [e] at hf ⊢
    simp only at hf ⊢
    refine ⟨[(a - p) / 256 % 256, (a - p) % 256], rfl, rfl, ?_⟩
    simp only [List.cons_append, List.nil_append, List.getD_cons_zero, List.getD_cons_succ]
    rw [show s16 ((a - p) / 256 % 256 * 256 + (a - p) % 256) + p = a by unfold s16; split <;> omega, hf.1]
  · rw [e] at hf ⊢
    simp only at hf ⊢
    refine ⟨[a % 256, b % 256], rfl, rfl, ?_⟩
    simp only [List.cons_append, List.nil_append, List.getD_cons_zero, List.getD_cons_succ]
    rw [show a % 256 = a by omega, show s8 (b % 256) = b by unfold s8; split <;> omega]

/-! Lists. -/
def fitsB (i : IN) : Bool :=
  match kd i.op with
  | 7 => decide ((0 ≤ i.a ∧ i.a ≤ 255) ∧ -128 ≤ i.b ∧ i.b ≤ 127)
  | 6 => decide (i.b = 0 ∧ -32768 ≤ i.a - i.pl ∧ i.a - i.pl ≤ 32767)
  | 5 => decide (i.b = 0 ∧ -32768 ≤ i.a ∧ i.a ≤ 32767)
  | 4 => decide (i.b = 0 ∧ 0 ≤ i.a ∧ i.a ≤ 65535)
  | 3 => decide (i.b = 0 ∧ -128 ≤ i.a ∧ i.a ≤ 127)
  | 2 => decide (i.b = 0 ∧ 0 ≤ i.a ∧ i.a ≤ 255)
  | _ => decide (i.a = 0 ∧ i.b = 0)
theorem fitsB_iff (i : IN) : fitsB i = true ↔ fits i := by
  unfold fitsB fits
  split <;> exact decide_eq_true_iff
def encL : List IN → List Int → List Int × Int
  | [], out => if 1024 < out.length then ([], 3) else (out, 0)
  | i :: l, out => if kd i.op = 0 then ([], 15) else if i.pl ≠ (out.length : Int) then ([], 16) else if fitsB i = false then ([], 1) else encL l (out ++ oneB i)
def decL5 (b : List Int) : Nat → Nat → List IN → List IN × Int × Int
  | 0, _, acc => (acc, 0, 0)
  | f + 1, p, acc =>
    match b.drop p with
    | [] => (acc, 0, 0)
    | op :: t => if kd op = 0 then ([], 15, p) else if b.length < p + sz op then ([], 10, p) else decL5 b f (p + sz op) (acc ++ [inst p op t])
def decZ5 (b : List Int) : List IN × Int × Int := if 1024 < b.length then ([], 3, 0) else decL5 b b.length 0 []
theorem sz_pos {op : Int} (h : kd op ≠ 0) : 1 ≤ sz op := by
  have := sz_zero op
  omega
theorem dec_enc : ∀ (l : List IN) (out b : List Int), encL l out = (b, 0) → b.length ≤ 1024 ∧ ∃ R, b = out ++ R ∧ ∀ (f : Nat) (acc : List IN), b.length ≤ out.length + f → decL5 b f out.length acc = (acc ++ l, 0, 0)
  | [], out, b, h => by
    unfold encL at h
    split at h
    · simp at h
    · simp only [Prod.mk.injEq, and_true] at h
      subst h
      refine ⟨by omega, [], by simp, fun f acc _ => ?_⟩
      cases f with
      | zero => simp [decL5]
      | succ f => simp [decL5]
  | i :: l, out, b, h => by
    unfold encL at h
    split at h
    · simp at h
    · rename_i hk
      split at h
      · simp at h
      · rename_i hp
        split at h
        · simp at h
        · rename_i hf
          have hf' : fits i := (fitsB_iff i).1 (by simpa using hf)
          obtain ⟨hb, R, hR, hd⟩ := dec_enc l _ b h
          obtain ⟨t, ht, hl, hi⟩ := inst_one i hk hf' R
          have hpl : i.pl = (out.length : Int) := Classical.not_not.1 hp
          refine ⟨hb, oneB i ++ R, by rw [hR]; simp, fun f acc hfu => ?_⟩
          have hlen : b.length = out.length + sz i.op + R.length := by
            rw [hR]; simp only [List.length_append]; rw [one_len i hk]
          have hs := sz_pos hk
          obtain ⟨f', rfl⟩ : ∃ f', f = f' + 1 := ⟨f - 1, by omega⟩
          have hdrop : b.drop out.length = i.op :: (t ++ R) := by
            rw [hR, List.append_assoc, List.drop_left, ht]; rfl
          unfold decL5
          rw [hdrop]
          simp only
          rw [if_neg hk, if_neg (by omega), ← hpl, hi]
          have := hd f' (acc ++ [i]) (by rw [List.length_append, one_len i hk]; omega)
          rw [List.length_append, one_len i hk] at this
          rw [this]
          simp
theorem back2 (l : List IN) (b : List Int) (h : encL l [] = (b, 0)) : decZ5 b = (l, 0, 0) := by
  obtain ⟨hb, R, hR, hd⟩ := dec_enc l [] b h
  unfold decZ5
  rw [if_neg (by omega)]
  have := hd b.length [] (by simp)
  simpa using this

theorem one_bytes (i : IN) (h : kd i.op ≠ 0) : AllBytes (oneB i) := by
  have hop := kd_byte h
  intro x hx
  unfold oneB at hx
  split at hx <;> simp at hx <;> omega
end Go.Proofs.Ytlnapfeglbdecaa
namespace Go.Proofs.Ytlnapfeglbdecaa
open Go.RowKit
theorem hidIt {p : Prop} (h : p) : Hid p := h
theorem ret_int {k : IntKind} {a b : Int} (h : a = b) : Ending.returned (.int k a) = .returned (.int k b) := by rw [h]
theorem Try.info5 : (Try.prog.info? 5).map (fun i => (i.zero, i.size, i.bytes)) = some (some (.int .u8 0), 1, 1) := by kernel_rfl
def zeroI : Value := .agg #[.int .i64 0, .int .i64 0, .int .i64 0, .int .i64 0]
theorem Try.info52 : (Try.prog.info? 52).map (fun i => (i.zero, i.size, i.bytes)) = some (some zeroI, 4, 32) := by kernel_rfl
def Moved (H : Nat) (v v' : Value) : Prop := v'.ownBlock = v.ownBlock ∨ ∃ g, v'.ownBlock = some g ∧ H ≤ g
structure Step (v : Value) (w : World) (v' : Value) (w' : World) : Prop where
  grown : w.grownBy w' v.ownBlock
  moved : Moved w.heap.size v v'
theorem Step.refl (v : Value) (w : World) : Step v w v w := ⟨⟨rfl, rfl, rfl, Nat.le_refl _, fun _ _ _ => rfl⟩, .inl rfl⟩
theorem Step.trans {v v1 v2 : Value} {w w1 w2 : World} (h : Step v w v1 w1) (k : Step v1 w1 v2 w2) : Step v w v2 w2 := by
  refine ⟨⟨k.grown.os.trans h.grown.os, k.grown.tape.trans h.grown.tape, k.grown.output.trans h.grown.output, Nat.le_trans h.grown.size k.grown.size, ?_⟩, ?_⟩
  · intro i hi hne
    have h1 := h.grown.block i hi hne
    have hlt : i < w1.heap.size := Nat.lt_of_lt_of_le hi h.grown.size
    rw [k.grown.block i hlt ?_, h1]
    rcases h.moved with e | ⟨g, e, hg⟩
    · rw [e]; exact hne
    · rw [e]; intro e2; cases e2; omega
  · rcases k.moved with e | ⟨g, e, hg⟩
    · rcases h.moved with e1 | ⟨g1, e1, hg1⟩
      · exact .inl (e.trans e1)
      · exact .inr ⟨g1, e.trans e1, hg1⟩
    · exact .inr ⟨g, e, Nat.le_trans h.grown.size hg⟩
theorem Step.of_below {v : Value} {w w' : World} (h : Below w.heap.size w w') : Step v w v w' :=
  ⟨⟨h.os, h.tape, h.output, h.size, fun k hk _ => h.block k hk⟩, .inl rfl⟩
theorem Step.of_at {v v' : Value} {w w' : World} (hg : w.grownBy w' v.ownBlock) (ha : v'.ownBlock = v.ownBlock ∨ v'.ownBlock = some w.heap.size) : Step v w v' w' :=
  ⟨hg, ha.imp id fun e => ⟨_, e, Nat.le_refl _⟩⟩
theorem Step.below {v v' : Value} {w w' : World} (h : Step v w v' w') {B : Nat} (hB : B ≤ w.heap.size) (hv : ∀ k, v.ownBlock = some k → B ≤ k) : Below B w w' :=
  (Below.refl _ _).grown h.grown hB hv
theorem below_alloc (w : World) (o : Obj) : Below w.heap.size w (w.alloc o) := (Below.refl _ _).alloc (Nat.le_refl _) o
theorem below_drewN {B : Nat} {w W : World} (h : Below B w W) (q : Nat) : Below B w (W.drewN q) := ⟨h.os, h.tape, h.output, h.size, h.block⟩
theorem cell_row {w : World} {b : Nat} {cs : Array Value} {T : TypeId} (h : w.heap[b]? = some (.cells cs T (0, 0))) (j : Nat) {v : Value} (hv : cs[j]? = some v) : w.cell? ⟨b, j, none⟩ = some v := by
  rw [cell_of_row w b j _ T (0, 0) h]; exact hv
theorem frozen_row {w : World} {b : Nat} {cs : Array Value} {T : TypeId} (hb : w.heap[b]? = some (.cells cs T (0, 0))) (j : Nat) : w.frozen? ⟨b, j, none⟩ = false := by
  simp [World.frozen?, hb]
theorem set_row {w : World} {g j : Nat} {cur : Array Value} {T : TypeId} {u : Value} (h : w.heap[g]? = some (.cells cur T (0, 0))) : (w.setCell ⟨g, j, none⟩ u).heap[g]? = some (.cells (cur.setIfInBounds j u) T (0, 0)) := by
  simp only [World.setCell, Array.getElem?_modify, if_pos, h, Option.map_some]
  try simp
theorem other_block {w : World} {k k' : Nat} {cs cs' : Array Value} {T T' : TypeId} {f f' : Nat × Nat} (h : w.heap[k]? = some (.cells cs T f)) (h' : w.heap[k']? = some (.cells cs' T' f')) (hT : T ≠ T') : k ≠ k' := by
  rintro rfl
  rw [h] at h'
  cases h'
  exact hT rfl

/-! Rows of one's own. -/
theorem own_below {w w' : World} {B e s n : Nat} {v : Value} {xs : List Value} (h : w.ownsRow B e s v n xs) (hb : Below w.heap.size w w') : w'.ownsRow B e s v n xs := by
  refine ⟨h.1, ?_⟩
  rcases h.2 with x | ⟨g, cap, cur, rfl, hB, hg2, r⟩
  · exact .inl x
  · exact .inr ⟨g, cap, cur, rfl, hB, (hb.block g (Array.getElem?_eq_some_iff.1 hg2).1).trans hg2, r⟩
theorem own_wk {w : World} {B B' n s : Nat} {T : TypeId} {v : Value} {xs : List Value} (h : w.ownsRow B T s v n xs) (hB : B' ≤ B) : w.ownsRow B' T s v n xs := by
  refine ⟨h.1, ?_⟩
  rcases h.2 with x | ⟨g, cap, cur, e, hb, r⟩
  · exact .inl x
  · exact .inr ⟨g, cap, cur, e, by omega, r⟩
theorem own_slice {w : World} {B e s n : Nat} {v : Value} {xs : List Value} (h : w.ownsRow B e s v n xs) : ∃ ao cap, v = .slice ao n cap := by
  rcases h.2 with ⟨rfl, rfl⟩ | ⟨g, cap, cur, rfl, _⟩
  · exact ⟨_, _, rfl⟩
  · exact ⟨_, _, rfl⟩

/-! Bytes. -/
def bcells (l : List Int) : List Value := l.map (Value.int .u8)
theorem bcells_append (a b : List Int) : bcells (a ++ b) = bcells a ++ bcells b := by simp [bcells]
def Lies (w : World) (g off : Nat) (l : List Int) : Prop := ∀ j x, l[j]? = some x → w.cell? ⟨g, off + j, none⟩ = some (.int .u8 x)
def View (w : World) (v : Value) (l : List Int) : Prop :=
  ∃ ao cap, v = .slice ao l.length cap ∧ l.length ≤ cap ∧ cap ≤ maxLen ∧ AllBytes l ∧ (l = [] ∨ ∃ g off, ao = some ⟨g, off, none⟩ ∧ Lies w g off l)
theorem AllBytes.append {a b : List Int} (ha : AllBytes a) (hb : AllBytes b) : AllBytes (a ++ b) := fun x hx => by
  rcases List.mem_append.1 hx with h | h
  · exact ha x h
  · exact hb x h
theorem AllBytes.nil : AllBytes [] := fun x hx => by simp at hx
theorem View.drewN {w : World} {v : Value} {l : List Int} (h : View w v l) (q : Nat) : View (w.drewN q) v l := h
theorem View.empty (w : World) : View w (.slice none 0 0) [] := ⟨none, 0, rfl, Nat.le_refl _, by unfold maxLen; omega, AllBytes.nil, .inl rfl⟩
theorem View.below {w wr : World} {v : Value} {l : List Int} (h : View w v l) (hb : Below w.heap.size w wr) : View wr v l := by
  obtain ⟨ao, cap, rfl, hc, hm, hy, hl⟩ := h
  refine ⟨ao, cap, rfl, hc, hm, hy, ?_⟩
  rcases hl with h | ⟨g, off, e, hl⟩
  · exact .inl h
  · exact .inr ⟨g, off, e, fun j x hj => cell_later hb (hl j x hj)⟩
theorem View.of_own {w : World} {B : Nat} {v : Value} {l : List Int} (h : w.ownsRow B 5 1 v l.length (bcells l)) (hb : AllBytes l) : View w v l := by
  rcases h.2 with ⟨rfl, h0⟩ | ⟨g, cap, cur, rfl, _, hg, h1, h2, h3, h4⟩
  · have : l = [] := List.length_eq_zero_iff.1 h0
    subst this
    exact ⟨none, 0, rfl, Nat.le_refl _, by unfold maxLen; omega, hb, .inl rfl⟩
  · refine ⟨some ⟨g, 0, none⟩, cap, rfl, h1, h2, hb, .inr ⟨g, 0, rfl, fun j x hj => ?_⟩⟩
    have hj' : (bcells l)[j]? = some (.int .u8 x) := by simp [bcells, hj]
    have := h.cells (g := g) rfl j _ hj'
    have e : (⟨g, 0, none⟩ : Addr).add j = ⟨g, 0 + j, none⟩ := by unfold Addr.add; split <;> simp_all
    rwa [e] at this
theorem View.laid (w : World) (l : List Int) (hb : AllBytes l) (hm : l.length ≤ maxLen) : View (w.alloc (.cells (bcells l).toArray 5)) (.slice (some ⟨w.heap.size, 0, none⟩) l.length l.length) l := by
  refine ⟨_, _, rfl, Nat.le_refl _, hm, hb, .inr ⟨_, _, rfl, fun j x hj => ?_⟩⟩
  have h := cell_of_row (w.alloc (.cells (bcells l).toArray 5)) w.heap.size (0 + j) (bcells l).toArray 5 (0, 0) (heap_alloc_new w _)
  rw [h]
  simp [bcells, hj]
theorem View.take {w : World} {ao : Option Addr} {c n : Nat} {l : List Int} (h : View w (.slice ao l.length c) l) (hn : n ≤ l.length) : View w (.slice ao n c) (l.take n) := by
  obtain ⟨ao', cap, e, hc, hm, hy, hl⟩ := h
  cases e
  refine ⟨ao, c, by rw [List.length_take, Nat.min_eq_left hn], by rw [List.length_take]; omega, hm, fun x hx => hy x (List.mem_of_mem_take hx), ?_⟩
  rcases hl with rfl | ⟨g, off, e, hl⟩
  · exact .inl (by simp)
  · refine .inr ⟨g, off, e, fun j x hj => hl j x ?_⟩
    rw [List.getElem?_take] at hj
    split at hj
    · exact hj
    · cases hj
theorem bcells_cell {w : World} {g off : Nat} {l : List Int} (h : Lies w g off l) (j : Nat) (u : Value) (hj : (bcells l)[j]? = some u) : w.cell? ((⟨g, off, none⟩ : Addr).add j) = some u := by
  have e : (⟨g, off, none⟩ : Addr).add j = ⟨g, off + j, none⟩ := by unfold Addr.add; split <;> simp_all
  rw [e]
  simp only [bcells, List.getElem?_map, Option.map_eq_some_iff] at hj
  obtain ⟨x, hx, rfl⟩ := hj
  exact h j x hx
theorem bcells_one (l : List Int) : ∀ u ∈ bcells l, u.oneCell' = true := by
  intro u hu
  simp only [bcells, List.mem_map] at hu
  obtain ⟨x, _, rfl⟩ := hu
  rfl
theorem run_append_view (w : World) (ty : TypeId) (B : Nat) (v vb : Value) (n : Nat) (xs : List Value) (lb : List Int) (hown : w.ownsRow B 5 1 v n xs) (hv : View w vb lb) (hlen : n + lb.length ≤ 140737488355328) (hB : B ≤ w.heap.size) :
    ∃ v' w', (Builtin.append_ #[34, 34] ty #[v, vb]).run Try.prog w = .ok v' w' ∧ w'.ownsRow B 5 1 v' (n + lb.length) (xs ++ bcells lb) ∧ Step v w v' w' := by
  obtain ⟨i0, hi, hz0, hz1, hz2⟩ := info_parts Try.info5
  obtain ⟨ao, cap, rfl, hc, hm, hy, hl⟩ := hv
  rcases hl with rfl | ⟨g, off, rfl, hl⟩
  · refine ⟨v, w, ?_, by simpa [bcells] using hown, Step.refl _ _⟩
    rcases hown.2 with ⟨rfl, rfl⟩ | ⟨g, cap, cur, rfl, hbg, hg, hnc, hcm, hcs, htake⟩
    · cases ao <;> simp [Builtin.append_, run_underlying Try.underlying34, sizeOf, typeInfo, hi, Builtin.lenOf, Builtin.firstCells, loadCells, loadCellsFrom]
    · cases ao <;> simp [Builtin.append_, run_underlying Try.underlying34, sizeOf, typeInfo, hi, Builtin.lenOf, Builtin.firstCells, loadCells, loadCellsFrom, hnc, storeCells]
  · obtain ⟨v', w', hr, ho, hg, _, hat⟩ := run_append_own_at (P := Try.prog) w B 34 ty 5 i0 (.int .u8 0) 1 1 Try.underlying34 hi hz0 hz1 hz2 rfl (by decide) v n xs hown ⟨g, off, none⟩ lb.length cap (bcells lb) (by simp [bcells]) (fun j u hj => bcells_cell hl j u hj) (bcells_one lb) (by unfold maxLen; omega) (by omega) hB
    exact ⟨v', w', hr, ho, Step.of_at hg hat⟩
theorem wpList_append_view {w : World} {ops : Array Oper} {rest : List Oper} {o : Oper} {a : Act} {Q : Exit → Act → World → Prop} (hgd : o.guard = none) (s x : Operand)
    (ho : o.op = .call { callee := .builtin .append, args := #[s, x], argTypes := #[34, 34] })
    (B : Nat) (v vb : Value) (n : Nat) (xs : List Value) (lb : List Int) (hs : a.eval s = v) (hown : w.ownsRow B 5 1 v n xs) (hx : a.eval x = vb) (hv : View w vb lb)
    (hlen : n + lb.length ≤ 140737488355328) (hB : B ≤ w.heap.size)
    (h : ∀ v' w', w'.ownsRow B 5 1 v' (n + lb.length) (xs ++ bcells lb) → Step v w v' w' → wpList Try.prog ops Q rest (a.put o.dst v') w') :
    wpList Try.prog ops Q (o :: rest) a w := by
  refine wpList_plain hgd fun K hK => ?_
  obtain ⟨v', w', hr, h2, h3⟩ := run_append_view w o.type B v vb n xs lb hown hv hlen hB
  unfold Oper.wp execOp
  simp only [ho, resolve, invoke, builtin, Sem.run_bind, Sem.run_pure, Result.andThen_ok, List.map_toArray, List.map_cons, List.map_nil, hs, hx, hr]
  exact hK _ _ (h v' w' h2 h3)

/-! Instructions. -/
def IN.val (i : IN) : Value := .agg #[.int .i64 i.pl, .int .i64 i.op, .int .i64 i.a, .int .i64 i.b]
def irow (i : IN) : List Value := [.int .i64 i.pl, .int .i64 i.op, .int .i64 i.a, .int .i64 i.b]
def icells (l : List IN) : List Value := l.flatMap irow
theorem icells_append (a b : List IN) : icells (a ++ b) = icells a ++ icells b := by simp [icells]
theorem icells_len (l : List IN) : (icells l).length = l.length * 4 := by
  induction l with
  | nil => rfl
  | cons x l ih => simp only [icells, List.flatMap_cons, List.length_append, List.length_cons] at *; rw [ih]; simp [irow]; omega
theorem icells_one (l : List IN) : ∀ u ∈ icells l, u.oneCell' = true := by
  intro u hu
  simp only [icells, List.mem_flatMap] at hu
  obtain ⟨x, _, hx⟩ := hu
  simp [irow] at hx
  rcases hx with rfl | rfl | rfl | rfl <;> rfl
def IAt (w : World) (g o : Nat) (i : IN) : Prop :=
  w.cell? ⟨g, o, none⟩ = some (.int .i64 i.pl) ∧ w.cell? ⟨g, o + 1, none⟩ = some (.int .i64 i.op) ∧ w.cell? ⟨g, o + 2, none⟩ = some (.int .i64 i.a) ∧ w.cell? ⟨g, o + 3, none⟩ = some (.int .i64 i.b)
def ILies (w : World) (g off : Nat) (l : List IN) : Prop := ∀ j x, l[j]? = some x → IAt w g (off + j * 4) x
def IView (w : World) (v : Value) (l : List IN) : Prop :=
  ∃ ao cap, v = .slice ao l.length cap ∧ l.length ≤ cap ∧ cap ≤ maxLen ∧ (l = [] ∨ ∃ g off, ao = some ⟨g, off, none⟩ ∧ ILies w g off l)
theorem IAt.below {w w' : World} {g o : Nat} {i : IN} (h : IAt w g o i) (hb : Below w.heap.size w w') : IAt w' g o i :=
  ⟨cell_later hb h.1, cell_later hb h.2.1, cell_later hb h.2.2.1, cell_later hb h.2.2.2⟩
theorem IAt.block {w w' : World} {g o : Nat} {i : IN} (h : IAt w g o i) (hb : w'.heap[g]? = w.heap[g]?) : IAt w' g o i :=
  ⟨(World.cell?_of_block (a := ⟨g, o, none⟩) hb).trans h.1, (World.cell?_of_block (a := ⟨g, o + 1, none⟩) hb).trans h.2.1, (World.cell?_of_block (a := ⟨g, o + 2, none⟩) hb).trans h.2.2.1, (World.cell?_of_block (a := ⟨g, o + 3, none⟩) hb).trans h.2.2.2⟩
theorem IView.below {w wr : World} {v : Value} {l : List IN} (h : IView w v l) (hb : Below w.heap.size w wr) : IView wr v l := by
  obtain ⟨ao, cap, rfl, hc, hm, hl⟩ := h
  refine ⟨ao, cap, rfl, hc, hm, ?_⟩
  rcases hl with h | ⟨g, off, e, hl⟩
  · exact .inl h
  · exact .inr ⟨g, off, e, fun j x hj => (hl j x hj).below hb⟩
theorem IView.drewN {w : World} {v : Value} {l : List IN} (h : IView w v l) (q : Nat) : IView (w.drewN q) v l := h
theorem IView.empty (w : World) : IView w (.slice none 0 0) [] := ⟨none, 0, rfl, Nat.le_refl _, by unfold maxLen; omega, .inl rfl⟩
theorem icells_get (l : List IN) (j : Nat) (x : IN) (i : Nat) (h : l[j]? = some x) (hi : i < 4) : (icells l)[j * 4 + i]? = (irow x)[i]? := by
  induction l generalizing j with
  | nil => simp at h
  | cons y l ih =>
    unfold icells
    rw [List.flatMap_cons]
    have hy : (irow y).length = 4 := rfl
    cases j with
    | zero =>
      simp at h; subst h
      rw [Nat.zero_mul, Nat.zero_add, List.getElem?_append_left (by omega)]
    | succ j =>
      simp at h
      rw [List.getElem?_append_right (by omega), hy, show (j + 1) * 4 + i - 4 = j * 4 + i by omega]
      exact ih j h
theorem ILies.cells {w : World} {g off : Nat} {l : List IN} (h : ILies w g off l) (j : Nat) (u : Value) (hj : (icells l)[j]? = some u) : w.cell? ((⟨g, off, none⟩ : Addr).add j) = some u := by
  have e : (⟨g, off, none⟩ : Addr).add j = ⟨g, off + j, none⟩ := by unfold Addr.add; split <;> simp_all
  rw [e]
  have hlt := (List.getElem?_eq_some_iff.1 hj).1
  rw [icells_len] at hlt
  obtain ⟨x, hx⟩ : ∃ x, l[j / 4]? = some x := ⟨l[j / 4]'(by omega), List.getElem?_eq_getElem (by omega)⟩
  have h4 : j % 4 < 4 := Nat.mod_lt _ (by decide)
  have hg := icells_get l (j / 4) x (j % 4) hx h4
  rw [show j / 4 * 4 + j % 4 = j by omega, hj] at hg
  obtain ⟨h0, h1, h2, h3⟩ := h (j / 4) x hx
  have ej : j = j / 4 * 4 + j % 4 := by omega
  generalize j % 4 = r at *
  match r, h4 with
  | 0, _ => simp [irow] at hg; subst hg; rw [ej]; exact h0
  | 1, _ => simp [irow] at hg; subst hg; rw [ej, ← Nat.add_assoc]; exact h1
  | 2, _ => simp [irow] at hg; subst hg; rw [ej, ← Nat.add_assoc]; exact h2
  | 3, _ => simp [irow] at hg; subst hg; rw [ej, ← Nat.add_assoc]; exact h3
theorem ILies.of_block {w : World} {g n : Nat} {cur : Array Value} {l : List IN} (hg : w.heap[g]? = some (.cells cur 52 (0, 0))) (hn : l.length = n) (ht : cur.toList.take (n * 4) = icells l) : ILies w g 0 l := by
  intro j x hj
  have hlt := (List.getElem?_eq_some_iff.1 hj).1
  have hc : ∀ i, i < 4 → cur[0 + j * 4 + i]? = (irow x)[i]? := by
    intro i hi
    rw [← icells_get l j x i hj hi, ← ht, List.getElem?_take, if_pos (by omega), Nat.zero_add, Array.getElem?_toList]
  exact ⟨cell_row hg _ (hc 0 (by decide)), cell_row hg _ (hc 1 (by decide)), cell_row hg _ (hc 2 (by decide)), cell_row hg _ (hc 3 (by decide))⟩
theorem IView.of_own {w : World} {B : Nat} {v : Value} {l : List IN} (h : w.ownsRow B 52 4 v l.length (icells l)) : IView w v l := by
  rcases h.2 with ⟨rfl, h0⟩ | ⟨g, cap, cur, rfl, _, hg, h1, h2, h3, h4⟩
  · have : l = [] := List.length_eq_zero_iff.1 h0
    subst this
    exact IView.empty w
  · exact ⟨some ⟨g, 0, none⟩, cap, rfl, h1, h2, .inr ⟨g, 0, rfl, ILies.of_block hg rfl h4⟩⟩
theorem IView.row {w : World} {ao : Option Addr} {n cap : Nat} {l : List IN} (h : IView w (.slice ao n cap) l) {j : Nat} {x : IN} (hj : l[j]? = some x) : ∃ g off, ao = some ⟨g, off, none⟩ ∧ IAt w g (off + j * 4) x := by
  obtain ⟨ao', cap', e, hc, hm, hl⟩ := h
  cases e
  rcases hl with rfl | ⟨g, off, rfl, hl⟩
  · simp at hj
  · exact ⟨g, off, rfl, hl j x hj⟩
theorem box_at (w : World) (i : IN) : IAt (w.alloc (.cells #[.int .i64 i.pl, .int .i64 i.op, .int .i64 i.a, .int .i64 i.b] 52)) w.heap.size 0 i := by
  have h := heap_alloc_new w (.cells #[.int .i64 i.pl, .int .i64 i.op, .int .i64 i.a, .int .i64 i.b] 52)
  exact ⟨cell_row h 0 rfl, cell_row h 1 rfl, cell_row h 2 rfl, cell_row h 3 rfl⟩
theorem irun_append (w : World) (ty : TypeId) (B : Nat) (v vb : Value) (n : Nat) (xs : List Value) (lb : List IN) (hown : w.ownsRow B 52 4 v n xs) (hv : IView w vb lb) (hlen : (n + lb.length) * 32 ≤ 140737488355328) (hB : B ≤ w.heap.size) :
    ∃ v' w', (Builtin.append_ #[44, 44] ty #[v, vb]).run Try.prog w = .ok v' w' ∧ w'.ownsRow B 52 4 v' (n + lb.length) (xs ++ icells lb) ∧ Step v w v' w' := by
  obtain ⟨i0, hi, hz0, hz1, hz2⟩ := info_parts Try.info52
  obtain ⟨ao, cap, rfl, hc, hm, hl⟩ := hv
  rcases hl with rfl | ⟨g, off, rfl, hl⟩
  · refine ⟨v, w, ?_, by simpa [icells] using hown, Step.refl _ _⟩
    rcases hown.2 with ⟨rfl, rfl⟩ | ⟨g, cap, cur, rfl, hbg, hg, hnc, hcm, hcs, htake⟩
    · cases ao <;> simp [Builtin.append_, run_underlying Try.underlying44, sizeOf, typeInfo, hi, Builtin.lenOf, Builtin.firstCells, loadCells, loadCellsFrom]
    · cases ao <;> simp [Builtin.append_, run_underlying Try.underlying44, sizeOf, typeInfo, hi, Builtin.lenOf, Builtin.firstCells, loadCells, loadCellsFrom, hnc, storeCells]
  · obtain ⟨v', w', hr, ho, hg, _, hat⟩ := run_append_own_at (P := Try.prog) w B 44 ty 52 i0 zeroI 4 32 Try.underlying44 hi hz0 hz1 hz2 rfl (by decide) v n xs hown ⟨g, off, none⟩ lb.length cap (icells lb) (icells_len lb) hl.cells (icells_one lb) (by unfold maxLen; omega) (by omega) hB
    exact ⟨v', w', hr, ho, Step.of_at hg hat⟩
theorem wpList_iappend {w : World} {ops : Array Oper} {rest : List Oper} {o : Oper} {a : Act} {Q : Exit → Act → World → Prop} (hgd : o.guard = none) (s x : Operand)
    (ho : o.op = .call { callee := .builtin .append, args := #[s, x], argTypes := #[44, 44] })
    (B : Nat) (v vb : Value) (n : Nat) (xs : List Value) (lb : List IN) (hs : a.eval s = v) (hown : w.ownsRow B 52 4 v n xs) (hx : a.eval x = vb) (hv : IView w vb lb)
    (hlen : (n + lb.length) * 32 ≤ 140737488355328) (hB : B ≤ w.heap.size)
    (h : ∀ v' w', w'.ownsRow B 52 4 v' (n + lb.length) (xs ++ icells lb) → Step v w v' w' → wpList Try.prog ops Q rest (a.put o.dst v') w') :
    wpList Try.prog ops Q (o :: rest) a w := by
  refine wpList_plain hgd fun K hK => ?_
  obtain ⟨v', w', hr, h2, h3⟩ := irun_append w o.type B v vb n xs lb hown hv hlen hB
  unfold Oper.wp execOp
  simp only [ho, resolve, invoke, builtin, Sem.run_bind, Sem.run_pure, Result.andThen_ok, List.map_toArray, List.map_cons, List.map_nil, hs, hx, hr]
  exact hK _ _ (h v' w' h2 h3)
end Go.Proofs.Ytlnapfeglbdecaa
namespace Go.Proofs.Ytlnapfeglbdecaa
open Go.RowKit
def endsB (op : Int) : Bool := op == 167 || (op == 172 || (op == 176 || (op == 177 || op == 191)))
end Go.Proofs.Ytlnapfeglbdecaa
namespace Go.Proofs.Ytlnapfeglbdecaa
open Go.RowKit
theorem wraps_u16 (n : Int) (h0 : 0 ≤ n) (h1 : n < 2 ^ 16) : IntKind.u16.wrap n = n := by
  simp [IntKind.wrap, IntKind.bits, IntKind.signed]; omega
theorem u16_or8 (x z : Int) (hx0 : 0 ≤ x) (hx1 : x ≤ 255) (hz0 : 0 ≤ z) (hz1 : z ≤ 255) : bits .or .u16 (x * 256) z = x * 256 + z :=
  bits_join .u16 16 (by decide) wraps_u16 8 (x * 256) z (by omega) (by omega) (by omega) hz0 (by omega) (by omega)
theorem wrap_s8 (x : Int) (h0 : 0 ≤ x) (h1 : x ≤ 255) : IntKind.i8.wrap x = s8 x := by
  unfold s8
  simp [IntKind.wrap, IntKind.bits, IntKind.signed]; split <;> omega
theorem wrap_s16 (x : Int) (h0 : 0 ≤ x) (h1 : x ≤ 65535) : IntKind.i16.wrap x = s16 x := by
  unfold s16
  simp [IntKind.wrap, IntKind.bits, IntKind.signed]; split <;> omega
theorem set_below {B g : Nat} {w w1 : World} (h : Below B w w1) (hB : B ≤ g) (o : Nat) (u : Value) : Below B w (w1.setCell ⟨g, o, none⟩ u) :=
  h.trans ⟨rfl, rfl, rfl, by simp [World.setCell], fun k hk => Below.heap_setCell _ _ _ _ (fun e => by simp only at e; omega)⟩
theorem cell_lt {W : World} {b o : Nat} {u : Value} (h : W.cell? ⟨b, o, none⟩ = some u) : b < W.heap.size := by
  apply Nat.lt_of_not_le
  intro hle
  have hn : W.heap[b]? = none := Array.getElem?_eq_none (by omega)
  simp [World.cell?, hn] at h
theorem kd_three (op : Int) : kd op = 3 ↔ op = 16 := by
  unfold kd
  constructor
  · intro h
    repeat' split at h
    all_goals first | assumption | omega
  · rintro rfl; decide
theorem kd_five (op : Int) : kd op = 5 ↔ op = 17 := by
  unfold kd
  constructor
  · intro h
    repeat' split at h
    all_goals first | assumption | omega
  · rintro rfl; decide
theorem kd_seven (op : Int) : kd op = 7 ↔ op = 132 := by
  unfold kd
  constructor
  · intro h
    repeat' split at h
    all_goals first | assumption | omega
  · rintro rfl; decide
end Go.Proofs.Ytlnapfeglbdecaa
namespace Go.Proofs.Ytlnapfeglbdecaa
open Go.RowKit

def findZ (l : List IN) (p : Int) : Int := match l.findIdx? (fun i => i.pl == p) with
  | some k => (k : Int)
  | none => -1
theorem findZ_some {l : List IN} {p : Int} {k : Nat} {x : IN} (hx : l[k]? = some x) (hp : x.pl = p) (hb : ∀ (j : Nat) (y : IN), j < k → l[j]? = some y → y.pl ≠ p) : findZ l p = (k : Int) := by
  have hk : k < l.length := (List.getElem?_eq_some_iff.1 hx).1
  have e : l.findIdx? (fun i => i.pl == p) = some k := by
    rw [List.findIdx?_eq_some_iff_getElem]
    refine ⟨hk, ?_, fun j hj => ?_⟩
    · rw [List.getElem?_eq_getElem hk] at hx
      cases hx
      simpa using hp
    · have := hb j l[j] hj (List.getElem?_eq_getElem (by omega))
      simpa using this
  unfold findZ
  rw [e]
theorem findZ_none {l : List IN} {p : Int} (hb : ∀ (j : Nat) (y : IN), l[j]? = some y → y.pl ≠ p) : findZ l p = -1 := by
  have e : l.findIdx? (fun i => i.pl == p) = none := by
    rw [List.findIdx?_eq_none_iff]
    intro x hx
    obtain ⟨i, hi⟩ := List.getElem?_of_mem hx
    simpa using hb i x hi
  unfold findZ
  rw [e]
theorem findZ_cases (l : List IN) (p : Int) : (findZ l p = -1 ∧ ∀ x ∈ l, x.pl ≠ p) ∨ ∃ k : Nat, ∃ x, findZ l p = (k : Int) ∧ l[k]? = some x ∧ x.pl = p := by
  unfold findZ
  cases h : l.findIdx? (fun i => i.pl == p) with
  | none =>
    rw [List.findIdx?_eq_none_iff] at h
    exact .inl ⟨rfl, fun x hx => by simpa using h x hx⟩
  | some k =>
    rw [List.findIdx?_eq_some_iff_getElem] at h
    obtain ⟨hk, h1, -⟩ := h
    exact .inr ⟨k, l[k], rfl, List.getElem?_eq_getElem hk, by simpa using h1⟩
theorem findZ_lt (l : List IN) (p : Int) : -1 ≤ findZ l p ∧ findZ l p < l.length := by
  rcases findZ_cases l p with ⟨h, -⟩ | ⟨k, x, h, hx, -⟩
  · omega
  · have := (List.getElem?_eq_some_iff.1 hx).1
    omega
theorem find1_any (i : IN) (b : Nat) (p : Int) (w : World) (hb : w.cell? ⟨b, 0, none⟩ = some (.int .i64 p)) :
    Calls Try.prog 53 #[i.val, .pointer (some ⟨b, 0, none⟩)] w fun e w' => e = .returned (.bool (i.pl == p)) ∧ Below w.heap.size w w' := by
  have hA := below_alloc w (.cells #[.int .i64 i.pl, .int .i64 i.op, .int .i64 i.a, .int .i64 i.b] 52)
  have h2 := cell_later hA hb
  have hbl := cell_lt hb
  have HA := hidIt hA
  clear hA
  unfold IN.val
  go_enter Try.func53, Try.ntmps53
  go_wp2
  go_ret
  exact ⟨rfl, HA.out⟩
set_option maxRecDepth 8000 in
set_option maxHeartbeats 2000000 in
theorem idx_any (v : Value) (l : List IN) (b : Nat) (p : Int) (w : World) (hv : IView w v l) (hb : w.cell? ⟨b, 0, none⟩ = some (.int .i64 p)) :
    Calls Try.prog 52 #[v, .func (.func 53) #[] #[.pointer (some ⟨b, 0, none⟩)]] w fun e w' => e = .returned (.int .i64 (findZ l p)) ∧ Below w.heap.size w w' := by
  have HV := hidIt hv
  have HB := hidIt hb
  obtain ⟨ao, cap, rfl, hc, hm, _⟩ := hv
  unfold maxLen at hm
  clear hb
  go_enter Try.func52, Try.ntmps52
  go_wp2
  go_loopw [5, 8] (fun _ s8 wr => ∃ k : Nat, k ≤ l.length ∧ s8 = .int .i64 (k : Int) ∧ Below w.heap.size w wr ∧ ∀ (j : Nat) (y : IN), j < k → l[j]? = some y → y.pl ≠ p) (fun _ s8 _ => l.length - (intOf s8).toNat)
  case atStart => exact ⟨0, Nat.zero_le _, rfl, Below.refl _ w, fun j y hj => absurd hj (Nat.not_lt_zero _)⟩
  case round =>
    obtain ⟨k, hk, rfl, BW, A⟩ := hrel
    have HBW := hidIt BW
    have HA := hidIt A
    clear BW A
    by_cases hlt : k < l.length
    · have hlt' : (k : Int) < (l.length : Int) := by omega
      obtain ⟨x, hx⟩ : ∃ x, l[k]? = some x := ⟨l[k], List.getElem?_eq_getElem hlt⟩
      obtain ⟨g, off, rfl, c0, c1, c2, c3⟩ := (HV.out.below HBW.out).row hx
      have hcall := find1_any x b p wr (cell_later HBW.out HB.out)
      unfold IN.val at hcall
      have HX := hidIt hx
      clear hx
      cases hq : (x.pl == p) with
      | true =>
        rw [hq] at hcall
        go_wp2_with fail
        refine hcall.mono ?_
        rintro e w' ⟨rfl, hb'⟩
        go_wp2
        go_ret
        exact ⟨ret_int (findZ_some HX.out (by simpa using hq) HA.out).symm, HBW.out.trans (hb'.mono HBW.out.size)⟩
      | false =>
        rw [hq] at hcall
        go_wp2_with fail
        refine hcall.mono ?_
        rintro e w' ⟨rfl, hb'⟩
        go_wp2
        refine ⟨⟨k + 1, by omega, by go_num, HBW.out.trans (hb'.mono HBW.out.size), fun j y hj hy => ?_⟩, by simp [intOf]; omega⟩
        by_cases e : j = k
        · subst e
          rw [HX.out] at hy
          cases hy
          simpa using hq
        · exact HA.out j y (by omega) hy
    · have hlt' : ¬ (k : Int) < (l.length : Int) := by omega
      go_wp2
      go_ret
      refine ⟨ret_int (findZ_none fun j y hy => HA.out j y ?_ hy).symm, HBW.out⟩
      have := (List.getElem?_eq_some_iff.1 hy).1
      omega
set_option maxRecDepth 8000 in
set_option maxHeartbeats 1000000 in
theorem find_any (v : Value) (l : List IN) (p : Int) (w : World) (hv : IView w v l) :
    Calls Try.prog 34 #[v, .int .i64 p] w fun e w' => e = .returned (.int .i64 (findZ l p)) ∧ Below w.heap.size w w' := by
  have hA := below_alloc w (.cells #[.int .i64 p] 3)
  have hI := idx_any v l w.heap.size p (w.alloc (.cells #[.int .i64 p] 3)) (hv.below hA) (cell_row (heap_alloc_new w _) 0 rfl)
  obtain ⟨ao, cap, rfl, hc, hm, _⟩ := hv
  have HA := hidIt hA
  have HI := hidIt hI
  clear hA hI
  go_enter Try.func34, Try.ntmps34
  go_wp2_with fail
  refine HI.out.mono ?_
  rintro e w' ⟨rfl, hb'⟩
  go_wp2
  go_ret
  exact ⟨rfl, HA.out.trans (hb'.mono HA.out.size)⟩
set_option maxRecDepth 8000 in
set_option maxHeartbeats 1000000 in
theorem rfind_any (v : Value) (l : List IN) (p : Int) (w : World) (hv : IView w v l) :
    Calls Try.prog 14 #[v, .int .i64 p] w fun e w' => e = .returned (.int .i64 (findZ l p)) ∧ w' = w := by
  have HV := hidIt hv
  obtain ⟨ao, cap, rfl, hc, hm, _⟩ := hv
  unfold maxLen at hm
  go_enter Try.func14, Try.ntmps14
  go_wp2
  go_loopw [5] (fun i wr => ∃ k : Nat, k ≤ l.length ∧ i = .int .i64 (k : Int) ∧ wr = w ∧ ∀ (j : Nat) (y : IN), j < k → l[j]? = some y → y.pl ≠ p) (fun i _ => l.length - (intOf i).toNat)
  case atStart => exact ⟨0, Nat.zero_le _, rfl, rfl, fun j y hj => absurd hj (Nat.not_lt_zero _)⟩
  case round =>
    obtain ⟨k, hk, rfl, rfl, A⟩ := hrel
    have HA := hidIt A
    clear A
    by_cases hlt : k < l.length
    · have hlt' : (k : Int) < (l.length : Int) := by omega
      obtain ⟨x, hx⟩ : ∃ x, l[k]? = some x := ⟨l[k], List.getElem?_eq_getElem hlt⟩
      obtain ⟨g, off, rfl, c0, c1, c2, c3⟩ := HV.out.row hx
      have HX := hidIt hx
      clear hx
      cases hq : (x.pl == p) with
      | true =>
        go_wp2
        go_ret
        exact ⟨ret_int (findZ_some HX.out (by simpa using hq) HA.out).symm, rfl⟩
      | false =>
        go_wp2
        refine ⟨⟨k + 1, by omega, by go_num, trivial, fun j y hj hy => ?_⟩, by simp [intOf]; omega⟩
        by_cases e : j = k
        · subst e
          rw [HX.out] at hy
          cases hy
          simpa using hq
        · exact HA.out j y (by omega) hy
    · have hlt' : ¬ (k : Int) < (l.length : Int) := by omega
      go_wp2
      go_ret
      refine ⟨ret_int (findZ_none fun j y hy => HA.out j y ?_ hy).symm, rfl⟩
      have := (List.getElem?_eq_some_iff.1 hy).1
      omega
end Go.Proofs.Ytlnapfeglbdecaa
namespace Go.Proofs.Ytlnapfeglbdecaa
open Go.RowKit
set_option maxRecDepth 8000 in
set_option maxHeartbeats 1000000 in
theorem branch_any (op : Int) (w : World) : Calls Try.prog 64 #[.int .i64 op] w fun e w' => e = .returned (.bool (decide (kd op = 6))) ∧ w' = w := by
  have hk := kd_six op
  by_cases h1 : 153 ≤ op
  · by_cases h2 : op ≤ 167
    · rw [decide_eq_true (hk.2 (by omega))]
      clear hk
      go_enter Try.func64, Try.ntmps64
      go_wp2
      go_ret
      exact ⟨rfl, rfl⟩
    · by_cases h3 : op = 198
      · subst h3
        rw [decide_eq_true (hk.2 (by omega))]
        clear hk
        go_enter Try.func64, Try.ntmps64
        go_wp2
        go_ret
        exact ⟨rfl, rfl⟩
      · by_cases h4 : op = 199
        · subst h4
          rw [decide_eq_true (hk.2 (by omega))]
          clear hk
          go_enter Try.func64, Try.ntmps64
          go_wp2
          go_ret
          exact ⟨rfl, rfl⟩
        · rw [decide_eq_false (fun h => by have := hk.1 h; omega)]
          clear hk
          have h3' : (op == 198) = false := by simpa using h3
          have h4' : (op == 199) = false := by simpa using h4
          go_enter Try.func64, Try.ntmps64
          go_wp2
          go_ret
          exact ⟨rfl, rfl⟩
  · rw [decide_eq_false (fun h => by have := hk.1 h; omega)]
    clear hk
    have h3' : (op == 198) = false := by simp; omega
    have h4' : (op == 199) = false := by simp; omega
    go_enter Try.func64, Try.ntmps64
    go_wp2
    go_ret
    exact ⟨rfl, rfl⟩
set_option maxRecDepth 8000 in
set_option maxHeartbeats 1000000 in
theorem ends_any (op : Int) (w : World) : Calls Try.prog 48 #[.int .i64 op] w fun e w' => e = .returned (.bool (endsB op)) ∧ w' = w := by
  have HE : Hid (endsB op = (op == 167 || (op == 172 || (op == 176 || (op == 177 || op == 191))))) := by show _ = _; unfold endsB; rfl
  generalize endsB op = r at *
  go_enter Try.func48, Try.ntmps48
  go_wp2
  all_goals go_ret
  all_goals refine ⟨?_, rfl⟩
  all_goals rw [HE.out]; simp_all
end Go.Proofs.Ytlnapfeglbdecaa
namespace Go.Proofs.Ytlnapfeglbdecaa
open Go.RowKit
def names5 : List (Int × ByteArray) := [(0, ⟨#[110, 111, 112]⟩), (1, ⟨#[110, 117, 108, 108]⟩), (2, ⟨#[99, 111, 110, 115, 116, 109, 49]⟩), (3, ⟨#[99, 111, 110, 115, 116, 48]⟩), (4, ⟨#[99, 111, 110, 115, 116, 49]⟩), (5, ⟨#[99, 111, 110, 115, 116, 50]⟩), (6, ⟨#[99, 111, 110, 115, 116, 51]⟩), (7, ⟨#[99, 111, 110, 115, 116, 52]⟩), (8, ⟨#[99, 111, 110, 115, 116, 53]⟩), (16, ⟨#[112, 117, 115, 104, 49]⟩), (17, ⟨#[112, 117, 115, 104, 50]⟩), (18, ⟨#[108, 100, 99]⟩), (21, ⟨#[105, 108, 111, 97, 100]⟩), (25, ⟨#[97, 108, 111, 97, 100]⟩), (46, ⟨#[105, 97, 108, 111, 97, 100]⟩), (50, ⟨#[97, 97, 108, 111, 97, 100]⟩), (54, ⟨#[105, 115, 116, 111, 114, 101]⟩), (58, ⟨#[97, 115, 116, 111, 114, 101]⟩), (79, ⟨#[105, 97, 115, 116, 111, 114, 101]⟩), (83, ⟨#[97, 97, 115, 116, 111, 114, 101]⟩), (87, ⟨#[112, 111, 112]⟩), (89, ⟨#[100, 117, 112]⟩), (95, ⟨#[115, 119, 97, 112]⟩), (96, ⟨#[97, 100, 100]⟩), (100, ⟨#[115, 117, 98]⟩), (104, ⟨#[109, 117, 108]⟩), (108, ⟨#[100, 105, 118]⟩), (112, ⟨#[114, 101, 109]⟩), (116, ⟨#[110, 101, 103]⟩), (120, ⟨#[115, 104, 108]⟩), (122, ⟨#[115, 104, 114]⟩), (124, ⟨#[117, 115, 104, 114]⟩), (126, ⟨#[97, 110, 100]⟩), (128, ⟨#[111, 114]⟩), (130, ⟨#[120, 111, 114]⟩), (132, ⟨#[105, 110, 99]⟩), (153, ⟨#[105, 102, 101, 113]⟩), (154, ⟨#[105, 102, 110, 101]⟩), (155, ⟨#[105, 102, 108, 116]⟩), (156, ⟨#[105, 102, 103, 101]⟩), (157, ⟨#[105, 102, 103, 116]⟩), (158, ⟨#[105, 102, 108, 101]⟩), (159, ⟨#[99, 109, 112, 101, 113]⟩), (160, ⟨#[99, 109, 112, 110, 101]⟩), (161, ⟨#[99, 109, 112, 108, 116]⟩), (162, ⟨#[99, 109, 112, 103, 101]⟩), (163, ⟨#[99, 109, 112, 103, 116]⟩), (164, ⟨#[99, 109, 112, 108, 101]⟩), (165, ⟨#[114, 101, 102, 101, 113]⟩), (166, ⟨#[114, 101, 102, 110, 101]⟩), (167, ⟨#[103, 111, 116, 111]⟩), (172, ⟨#[105, 114, 101, 116, 117, 114, 110]⟩), (176, ⟨#[97, 114, 101, 116, 117, 114, 110]⟩), (177, ⟨#[114, 101, 116, 117, 114, 110]⟩), (178, ⟨#[103, 101, 116, 115, 116, 97, 116, 105, 99]⟩), (179, ⟨#[112, 117, 116, 115, 116, 97, 116, 105, 99]⟩), (180, ⟨#[103, 101, 116, 102, 105, 101, 108, 100]⟩), (181, ⟨#[112, 117, 116, 102, 105, 101, 108, 100]⟩), (182, ⟨#[118, 105, 114, 116, 117, 97, 108]⟩), (184, ⟨#[115, 116, 97, 116, 105, 99]⟩), (187, ⟨#[110, 101, 119]⟩), (188, ⟨#[110, 101, 119, 105, 110, 116, 115]⟩), (189, ⟨#[110, 101, 119, 114, 101, 102, 115]⟩), (190, ⟨#[108, 101, 110, 103, 116, 104]⟩), (191, ⟨#[116, 104, 114, 111, 119]⟩), (192, ⟨#[99, 97, 115, 116]⟩), (193, ⟨#[105, 115, 97]⟩), (194, ⟨#[101, 110, 116, 101, 114]⟩), (195, ⟨#[101, 120, 105, 116]⟩), (198, ⟨#[105, 102, 110, 117, 108, 108]⟩), (199, ⟨#[105, 102, 115, 111, 109, 101]⟩)]
def nameO (op : Int) : ByteArray := match names5.find? (fun p => p.1 == op) with | some p => p.2 | none => ⟨#[]⟩
theorem find_no {op : Int} (hn : ∀ q ∈ names5, q.1 ≠ op) : nameO op = ⟨#[]⟩ := by
  unfold nameO
  rw [List.find?_eq_none.2 (fun q hq => by simpa using hn q hq)]
end Go.Proofs.Ytlnapfeglbdecaa
