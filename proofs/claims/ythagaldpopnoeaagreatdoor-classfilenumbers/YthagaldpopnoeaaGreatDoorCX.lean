/- Fields, handlers and frames, written. -/
import Derived.Test.YthagaldpopnoeaaGreatDoorCW
import Derived.Deep.QuietTactic
import Derived.BigQuiet
namespace Go.Proofs.YthagaldpopnoeaaGreatDoor
open Go.RowKit D

def fl1 (b : Bool) : Int := if b then 1 else 0
def fl2 (a b : Bool) : Int := (if a then 1 else 0) + (if b then 2 else 0)
def fieldO (f : FD) : List Int := wtextZ f.nm ++ wtextZ f.ds ++ be (fl1 f.st) 1
def handO (h : HD) : List Int := be h.fr 2 ++ be h.tO 2 ++ be h.aT 2 ++ wtextZ h.ty
def textsO (l : List ByteArray) : List Int := be (l.length : Nat) 1 ++ l.flatMap wtextZ
def frameO (f : RD) : List Int := be f.aT 2 ++ textsO f.loc ++ textsO f.stk
def handsO (l : List HD) : List Int := be (l.length : Nat) 1 ++ l.flatMap handO
def framesO (l : List RD) : List Int := be (l.length : Nat) 1 ++ l.flatMap frameO
def methO (m : MD) : List Int := wtextZ m.nm ++ wtextZ m.ds ++ be (fl2 m.st m.nat) 1 ++ be m.stk 1 ++ be m.loc 1 ++ be (m.code.length : Nat) 2 ++ m.code ++ handsO m.hs ++ framesO m.rs
def fieldsO (l : List FD) : List Int := be (l.length : Nat) 1 ++ l.flatMap fieldO
def methsO (l : List MD) : List Int := be (l.length : Nat) 1 ++ l.flatMap methO
def classO (k : KD) : List Int := [202, 254, 186, 190, 0, 1] ++ poolZ k.pool ++ wtextZ k.nm ++ wtextZ k.sup ++ fieldsO k.fs ++ methsO k.ms

theorem cell_row {w : World} {b : Nat} {cs : Array Value} {T : TypeId} (h : w.heap[b]? = some (.cells cs T (0, 0))) (j : Nat) {v : Value} (hv : cs[j]? = some v) : w.cell? ⟨b, j, none⟩ = some v := by
  rw [cell_of_row _ _ _ _ T (0, 0) h]; exact hv
theorem wr_texts (w0 : World) (pw : Nat) (xs : List ByteArray) (ao : Option Addr) (c : Nat) (hL : LAt 1 TextR w0 ao c xs) (hs : ∀ s ∈ xs, s.size ≤ 17179869184) (l : List Int) (w : World) (h : WR w0 pw w l) (hlen : (l ++ textsO xs).length ≤ 137438953472) :
    Calls Tryz.prog 170 #[wv pw, .slice ao xs.length c, .func (.func 90) #[ptr pw] #[]] w fun e w' => e = .returned (.tuple #[]) ∧ WR w0 pw w' (l ++ textsO xs) ∧ WS pw w w' :=
  wr_listS w0 pw wtextZ xs ao c hL (fun x hx W L _ hW hl => wr_text w0 pw L x W hW (by rw [List.length_append] at hl; omega) (hs x hx)) l w h hlen

set_option maxRecDepth 8000 in
set_option maxHeartbeats 2000000 in
theorem one_frame (w0 : World) (pw : Nat) (f : RD) (hs : (∀ s ∈ f.loc, s.size ≤ 17179869184) ∧ ∀ s ∈ f.stk, s.size ≤ 17179869184) : OneR w0 pw frameO f := by
  intro W L o1 c1 o2 c2 hR hW hlen
  obtain ⟨p1, q1, p2, q2, e, k1, k2⟩ := hR
  simp only [List.cons.injEq, Value.slice.injEq] at e
  obtain ⟨_, ⟨rfl, _, rfl⟩, ⟨rfl, _, rfl⟩, _⟩ := e
  unfold frameO at *
  have g1 := fun W (h : WR w0 pw W L) => D.hidIt (wr_pair w0 pw L f.aT W h (by simp only [List.length_append] at hlen; omega))
  have g2 := fun W (h : WR w0 pw W (L ++ be f.aT 2)) => D.hidIt (wr_texts w0 pw f.loc o1 c1 k1 hs.1 _ W h (by simp only [List.length_append] at hlen ⊢; omega))
  have g3 := fun W (h : WR w0 pw W (L ++ be f.aT 2 ++ textsO f.loc)) => D.hidIt (wr_texts w0 pw f.stk o2 c2 k2 hs.2 _ W h (by simp only [List.length_append] at hlen ⊢; omega))
  clear hlen hs k1 k2
  generalize textsO f.loc = X1 at *
  generalize textsO f.stk = X2 at *
  generalize f.loc.length = n1 at *
  generalize f.stk.length = n2 at *
  obtain ⟨aT, loc, stk⟩ := f
  simp only at *
  have hA := hW.below (balloc W (.cells #[.pointer (some ⟨pw, 0, none⟩)] 92))
  have hB := hA.below (balloc _ (.cells #[.int .i64 aT, .slice o1 n1 c1, .slice o2 n2 c2] 74))
  have bx1 := (Keeps.new hW (.cells #[.pointer (some ⟨pw, 0, none⟩)] 92)).step (WS.of_below hA.lt (balloc _ (.cells #[.int .i64 aT, .slice o1 n1 c1, .slice o2 n2 c2] 74)))
  have bx2 := Keeps.new hA (.cells #[.int .i64 aT, .slice o1 n1 c1, .slice o2 n2 c2] 74)
  rw [show (W.alloc (.cells #[.pointer (some ⟨pw, 0, none⟩)] 92)).heap.size = W.heap.size + 1 by simp] at bx2
  have S0 := D.hidIt ((WS.of_below hW.lt (balloc W (.cells #[.pointer (some ⟨pw, 0, none⟩)] 92))).trans (WS.of_below hA.lt (balloc _ (.cells #[.int .i64 aT, .slice o1 n1 c1, .slice o2 n2 c2] 74))))
  have HB := D.hidIt hB
  have K1 := D.hidIt bx1
  have K2 := D.hidIt bx2
  clear hA hB hW bx1 bx2
  unfold wv ptr at *
  go_enter Tryz.func139, Tryz.ntmps139
  go_wp2_with fail
  refine (g1 _ HB.out).out.mono ?_
  rintro e w1 ⟨rfl, h1, s1⟩
  have H1 := D.hidIt h1
  have S1 := D.hidIt s1
  clear h1 s1 g1
  have k1 := K1.out.step S1.out
  have k2 := K2.out.step S1.out
  have a1 := cell_row k1.1 0 rfl
  have a2 := cell_row k2.1 1 rfl
  clear k1 k2
  go_wp2_with fail
  refine (g2 _ H1.out).out.mono ?_
  rintro e w2 ⟨rfl, h2, s2⟩
  have H2 := D.hidIt h2
  have S2 := D.hidIt s2
  clear h2 s2 g2 a1 a2
  have k1 := K1.out.step (S1.out.trans S2.out)
  have k2 := K2.out.step (S1.out.trans S2.out)
  have a1 := cell_row k1.1 0 rfl
  have a2 := cell_row k2.1 2 rfl
  clear k1 k2
  go_wp2_with fail
  refine (g3 _ H2.out).out.mono ?_
  rintro e w3 ⟨rfl, h3, s3⟩
  have H3 := D.hidIt h3
  have S3 := D.hidIt s3
  clear h3 s3 g3 a1 a2
  go_wp2
  go_end0
  exact ⟨rfl, by have := H3.out; simpa only [List.append_assoc] using this, S0.out.trans (S1.out.trans (S2.out.trans S3.out))⟩
end Go.Proofs.YthagaldpopnoeaaGreatDoor
