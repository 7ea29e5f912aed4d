import Derived.Test.YtpehimfnkmepnaaGreatBz09
import Derived.Test.YtpehimfnkmepnaaGreatBz10
set_option maxRecDepth 8000
set_option maxHeartbeats 40000000
namespace Go.Proofs.YtpehimfnkmepnaaGreat
open Go.RowKit
theorem rone7 (hN : zHx) (i : IN) (h : kd i.op = 7) (w : World) : Calls Tryz.prog 168 #[.agg #[.int .i64 i.pl, .int .i64 i.op, .int .i64 i.a, .int .i64 i.b]] w fun e w' => Below w.heap.size w w' ∧ ∃ ao n c, e = .returned (.tuple #[.slice ao n c, .bool (zAv i)]) ∧ (zAv i = true → w'.ownsRow w.heap.size 5 1 (.slice ao n c) (oneB i).length (zAj (oneB i))) := by
 have hop : i.op = 132 := by
  unfold kd at h
  repeat' split at h
  all_goals first | assumption | omega
 have B0 := zA0 (zBl w (box5 i))
 have X0 : Hid ((w.alloc (box5 i)).heap[w.heap.size]? = some (box5 i)) := heap_alloc_new _ _
 have gS := fun W => zA0 (zJg hN i.op W)
 have gA := fun W => zA0 (rin i.a 0 255 W)
 have gI := fun W => zA0 (rin i.b (-128) 127 W)
 have hs : sz i.op = 3 := by unfold sz; rw [h]; rfl
 rw [hs] at gS
 have HFI : Hid (zAv i = decide ((0 ≤ i.a ∧ i.a ≤ 255) ∧ -128 ≤ i.b ∧ i.b ≤ 127)) := by show _ = _; unfold zAv; rw [h]; rfl
 have HO : Hid (oneB i = [i.op, i.a % 256, i.b % 256]) := by show _ = _; unfold oneB; rw [h]; rfl
 clear hs hN h
 unfold box5 at B0 X0
 unfold in5 at gI gA
 generalize zAv i = fi at *
 generalize oneB i = ob at *
 obtain ⟨pl, op, a, b⟩ := i
 simp only at *
 subst hop
 have HIN : Hid ((decide ((0 : Int) ≤ a) && decide (a ≤ 255)) = decide (0 ≤ a ∧ a ≤ 255) ∧ (decide ((-128 : Int) ≤ b) && decide (b ≤ 127)) = decide (-128 ≤ b ∧ b ≤ 127)) := ⟨by rw [Bool.decide_and], by rw [Bool.decide_and]⟩
 rw [HIN.out.1] at gA
 rw [HIN.out.2] at gI
 have hwa : IntKind.u8.wrap a = a % 256 := by simp [IntKind.wrap, IntKind.bits, IntKind.signed]
 have hwb : IntKind.u8.wrap b = b % 256 := by simp [IntKind.wrap, IntKind.bits, IntKind.signed]
 generalize hq : decide (-128 ≤ b ∧ b ≤ 127) = q at *
 have HQ := zA0 hq
 clear hq HIN
 go_enter Tryz.func168, Tryz.ntmps168
 go_wp2_with fail
 refine (gS _).out.mono ?_
 rintro e w2 ⟨rfl, b2⟩
 have B2 := zA0 (B0.out.trans (b2.mono (by simp)))
 have X2 := zA0 ((b2.block _ (by simp)).trans X0.out)
 clear b2 B0 X0 gS
 have e1 := zAg X2.out 1 rfl
 have e2 := zAg X2.out 2 rfl
 have e3 := zAg X2.out 3 rfl
 have Y2 := zA0 ((heap_alloc_old w2 (.cells #[.int .u8 132, .int .u8 (a % 256), .int .u8 (b % 256)] 5) (Array.getElem?_eq_some_iff.1 X2.out).1).trans X2.out)
 have c1 := zAg Y2.out 1 rfl
 have c2 := zAg Y2.out 2 rfl
 have c3 := zAg Y2.out 3 rfl
 have B3 : Hid (Below w.heap.size w (w2.alloc (.cells #[.int .u8 132, .int .u8 (a % 256), .int .u8 (b % 256)] 5)).drew) := zA5 (B2.out.trans ((zBl w2 (.cells #[.int .u8 132, .int .u8 (a % 256), .int .u8 (b % 256)] 5)).mono B2.out.size)) 1
 have O3 : Hid ((w2.alloc (.cells #[.int .u8 132, .int .u8 (a % 256), .int .u8 (b % 256)] 5)).drew.ownsRow w.heap.size 5 1 (.slice (some ⟨w2.heap.size, 0, none⟩) 3 3) [132, a % 256, b % 256].length (zAj [132, a % 256, b % 256])) := by
  refine ⟨rfl, .inr ⟨w2.heap.size, 3, #[.int .u8 132, .int .u8 (a % 256), .int .u8 (b % 256)], rfl, B2.out.size, heap_alloc_new w2 (.cells #[.int .u8 132, .int .u8 (a % 256), .int .u8 (b % 256)] 5), Nat.le_refl _, by unfold maxLen; omega, rfl, rfl⟩⟩
 by_cases hA : 0 ≤ a ∧ a ≤ 255
 · rw [decide_eq_true hA] at gA
   have HA := zA0 hA
   clear hA
   go_wp2_with fail
   refine wp_region_noPanic ?_
   refine wp_region_held_drew (S := fun W => W.cell? ⟨w.heap.size, 1, none⟩ = some (.int .i64 132) ∧ W.cell? ⟨w.heap.size, 2, none⟩ = some (.int .i64 a) ∧ W.cell? ⟨w.heap.size, 3, none⟩ = some (.int .i64 b)) (by kernel_rfl) ?_ (fun hHeld => ?_)
   · (try dsimp only); first | exact ⟨e1, e2, e3⟩ | exact ⟨c1, c2, c3⟩
   refine tH 0 ?vp1 rfl rfl ?q0 ?q1
   case q0 => intro w hSw; (try dsimp only at hSw); go_simp; try with_reducible rfl
   try simp only [Act.put, sq1, sq2, sq3]
   refine tH 1 ?vp2 rfl rfl ?q2 ?q3
   case q2 => intro w hSw; (try dsimp only at hSw); go_simp; try with_reducible rfl
   try simp only [Act.put, sq1, sq2, sq3]
   refine tH 2 ?vp3 rfl rfl ?q4 ?q5
   case q4 => intro w hSw; (try dsimp only at hSw); go_simp; try with_reducible rfl
   try simp only [Act.put, sq1, sq2, sq3]
   refine tH 3 ?vp4 rfl rfl ?q6 ?q7
   case q6 => intro w hSw; (try dsimp only at hSw); go_simp; try with_reducible rfl
   try simp only [Act.put, sq1, sq2, sq3]
   refine tH 4 ?vp5 rfl rfl ?q8 ?q9
   case q8 => intro w hSw; (try dsimp only at hSw); go_simp; try with_reducible rfl
   try simp only [Act.put, sq1, sq2, sq3]
   refine tH 5 ?vp6 rfl rfl ?qa ?qb
   case qa => intro w hSw; (try dsimp only at hSw); go_simp; try with_reducible rfl
   try simp only [Act.put, sq1, sq2, sq3]
   refine tH 6 ?vp7 rfl rfl ?qc ?qd
   case qc => intro w hSw; (try dsimp only at hSw); go_simp; try with_reducible rfl
   try simp only [Act.put, sq1, sq2, sq3]
   refine tH 7 ?vp8 rfl rfl ?qe ?qf
   case qe => intro w hSw; (try dsimp only at hSw); go_simp; try with_reducible rfl
   try simp only [Act.put, sq1, sq2, sq3]
   refine tH 8 ?vp9 rfl rfl ?qg ?qh
   case qg => intro w hSw; (try dsimp only at hSw); go_simp; try with_reducible rfl
   try simp only [Act.put, sq1, sq2, sq3]
   refine tH 10 ?qi rfl rfl ?qj ?qk
   case qj => intro w hSw; (try dsimp only at hSw); go_simp; try with_reducible rfl
   try simp only [Act.put, sq1, sq2, sq3]
   refine tH 11 ?ql rfl rfl ?qm ?qn
   case qm => intro w hSw; (try dsimp only at hSw); go_simp; try with_reducible rfl
   try simp only [Act.put, sq1, sq2, sq3]
   refine wpAnyH_ready (rs := [9, 12]) (by kernel_rfl) (by simp) ?_
   refine cH rfl (fun K hK => ?_) (cH rfl (fun K hK => ?_) (AllReadyH.nil))
   · go_simp
     try go_wp2_with fail
     refine hK.out _ _ ?qo ?qp
     case qo => (try dsimp only); first | exact ⟨e1, e2, e3⟩ | exact ⟨c1, c2, c3⟩
     clear hK K hHeld
     intro hHeld
     try simp only [Act.put, sq1, sq2, sq3]
     refine oH 12 rfl (fun K hK => ?_)
     go_simp
     (go_at_call 197; refine (gA _).out.mono ?_; rintro e w' ⟨rfl, hww⟩; cases hww)
     try go_wp2_with fail
     refine hK.out _ _ ?qq ?qr
     case qq => (try dsimp only); first | exact ⟨e1, e2, e3⟩ | exact ⟨c1, c2, c3⟩
     clear hK K hHeld
     intro hHeld
     try simp only [Act.put, sq1, sq2, sq3]
     refine tH 13 ?qs rfl rfl ?qt ?qu
     case qt => intro w hSw; (try dsimp only at hSw); go_simp; try with_reducible rfl
     try simp only [Act.put, sq1, sq2, sq3]
     refine tH 14 ?qv rfl rfl ?qw ?qx
     case qw => intro w hSw; (try dsimp only at hSw); go_simp; try with_reducible rfl
     try simp only [Act.put, sq1, sq2, sq3]
     refine tH 15 ?qy rfl rfl ?qz ?qA
     case qz => intro w hSw; (try dsimp only at hSw); go_simp; try with_reducible rfl
     try simp only [Act.put, sq1, sq2, sq3]
     refine oH 16 rfl (fun K hK => ?_)
     go_simp
     (go_at_call 197; refine (gI _).out.mono ?_; rintro e w' ⟨rfl, hww⟩; cases hww)
     try go_wp2_with fail
     refine hK.out _ _ ?qB ?qC
     case qB => (try dsimp only); first | exact ⟨e1, e2, e3⟩ | exact ⟨c1, c2, c3⟩
     clear hK K hHeld
     intro hHeld
     try simp only [Act.put, sq1, sq2, sq3]
     refine tH 17 ?qD rfl rfl ?qE ?qF
     case qE => intro w hSw; (try dsimp only at hSw); go_simp; try with_reducible rfl
     try simp only [Act.put, sq1, sq2, sq3]
     refine tH 18 ?qG rfl rfl ?qH ?qI
     case qH => intro w hSw; (try dsimp only at hSw); go_simp; try with_reducible rfl
     try simp only [Act.put, sq1, sq2, sq3]
     refine tH 19 ?qJ rfl rfl ?qK ?qL
     case qK => intro w hSw; (try dsimp only at hSw); go_simp; try with_reducible rfl
     try simp only [Act.put, sq1, sq2, sq3]
     refine eH ?_
     refine NoPanic.normal ?_
     go_wp2
     go_ret2
     refine ⟨B3.out, _, _, _, ?_, fun _ => by rw [HO.out]; exact O3.out⟩
     rw [HFI.out, ← HQ.out]; simp [HA.out]
   · go_simp
     (go_at_call 197; refine (gA _).out.mono ?_; rintro e w' ⟨rfl, hww⟩; cases hww)
     try go_wp2_with fail
     refine hK.out _ _ ?qM ?qN
     case qM => (try dsimp only); first | exact ⟨e1, e2, e3⟩ | exact ⟨c1, c2, c3⟩
     clear hK K hHeld
     intro hHeld
     try simp only [Act.put, sq1, sq2, sq3]
     refine tH 13 ?qO rfl rfl ?qP ?qQ
     case qP => intro w hSw; (try dsimp only at hSw); go_simp; try with_reducible rfl
     try simp only [Act.put, sq1, sq2, sq3]
     refine tH 14 ?qR rfl rfl ?qS ?qT
     case qS => intro w hSw; (try dsimp only at hSw); go_simp; try with_reducible rfl
     try simp only [Act.put, sq1, sq2, sq3]
     refine tH 15 ?qU rfl rfl ?qV ?qW
     case qV => intro w hSw; (try dsimp only at hSw); go_simp; try with_reducible rfl
     try simp only [Act.put, sq1, sq2, sq3]
     refine wpAnyH_ready (rs := [9, 16]) (by kernel_rfl) (by simp) ?_
     refine cH rfl (fun K hK => ?_) (cH rfl (fun K hK => ?_) (AllReadyH.nil))
     · go_simp
       try go_wp2_with fail
       refine hK.out _ _ ?qX ?qY
       case qX => (try dsimp only); first | exact ⟨e1, e2, e3⟩ | exact ⟨c1, c2, c3⟩
       clear hK K hHeld
       intro hHeld
       try simp only [Act.put, sq1, sq2, sq3]
       refine oH 16 rfl (fun K hK => ?_)
       go_simp
       (go_at_call 197; refine (gI _).out.mono ?_; rintro e w' ⟨rfl, hww⟩; cases hww)
       try go_wp2_with fail
       refine hK.out _ _ ?qZ ?j0
       case qZ => (try dsimp only); first | exact ⟨e1, e2, e3⟩ | exact ⟨c1, c2, c3⟩
       clear hK K hHeld
       intro hHeld
       try simp only [Act.put, sq1, sq2, sq3]
       refine tH 17 ?j1 rfl rfl ?j2 ?j3
       case j2 => intro w hSw; (try dsimp only at hSw); go_simp; try with_reducible rfl
       try simp only [Act.put, sq1, sq2, sq3]
       refine tH 18 ?j4 rfl rfl ?j5 ?j6
       case j5 => intro w hSw; (try dsimp only at hSw); go_simp; try with_reducible rfl
       try simp only [Act.put, sq1, sq2, sq3]
       refine tH 19 ?j7 rfl rfl ?j8 ?j9
       case j8 => intro w hSw; (try dsimp only at hSw); go_simp; try with_reducible rfl
       try simp only [Act.put, sq1, sq2, sq3]
       refine eH ?_
       refine NoPanic.normal ?_
       go_wp2
       go_ret2
       refine ⟨B3.out, _, _, _, ?_, fun _ => by rw [HO.out]; exact O3.out⟩
       rw [HFI.out, ← HQ.out]; simp [HA.out]
     · go_simp
       (go_at_call 197; refine (gI _).out.mono ?_; rintro e w' ⟨rfl, hww⟩; cases hww)
       try go_wp2_with fail
       refine hK.out _ _ ?ja ?jb
       case ja => (try dsimp only); first | exact ⟨e1, e2, e3⟩ | exact ⟨c1, c2, c3⟩
       clear hK K hHeld
       intro hHeld
       try simp only [Act.put, sq1, sq2, sq3]
       refine tH 17 ?jc rfl rfl ?jd ?je
       case jd => intro w hSw; (try dsimp only at hSw); go_simp; try with_reducible rfl
       try simp only [Act.put, sq1, sq2, sq3]
       refine oH 9 rfl (fun K hK => ?_)
       go_simp
       try go_wp2_with fail
       refine hK.out _ _ ?jf ?jg
       case jf => (try dsimp only); first | exact ⟨e1, e2, e3⟩ | exact ⟨c1, c2, c3⟩
       clear hK K hHeld
       intro hHeld
       try simp only [Act.put, sq1, sq2, sq3]
       refine tH 18 ?jh rfl rfl ?ji ?jj
       case ji => intro w hSw; (try dsimp only at hSw); go_simp; try with_reducible rfl
       try simp only [Act.put, sq1, sq2, sq3]
       refine tH 19 ?jk rfl rfl ?jl ?jm
       case jl => intro w hSw; (try dsimp only at hSw); go_simp; try with_reducible rfl
       try simp only [Act.put, sq1, sq2, sq3]
       refine eH ?_
       refine NoPanic.normal ?_
       go_wp2
       go_ret2
       refine ⟨B3.out, _, _, _, ?_, fun _ => by rw [HO.out]; exact O3.out⟩
       rw [HFI.out, ← HQ.out]; simp [HA.out]
 · rw [decide_eq_false hA] at gA
   have HA := zA0 hA
   clear hA
   go_wp2_with fail
   refine wp_region_noPanic ?_
   refine wp_region_held_drew (S := fun W => W.cell? ⟨w.heap.size, 1, none⟩ = some (.int .i64 132) ∧ W.cell? ⟨w.heap.size, 2, none⟩ = some (.int .i64 a) ∧ W.cell? ⟨w.heap.size, 3, none⟩ = some (.int .i64 b)) (by kernel_rfl) ?_ (fun hHeld => ?_)
   · (try dsimp only); first | exact ⟨e1, e2, e3⟩ | exact ⟨c1, c2, c3⟩
   refine tH 0 ?vn1 rfl rfl ?jn ?jo
   case jn => intro w hSw; (try dsimp only at hSw); go_simp; try with_reducible rfl
   try simp only [Act.put, sq1, sq2, sq3]
   refine tH 1 ?vn2 rfl rfl ?jp ?jq
   case jp => intro w hSw; (try dsimp only at hSw); go_simp; try with_reducible rfl
   try simp only [Act.put, sq1, sq2, sq3]
   refine tH 2 ?vn3 rfl rfl ?jr ?js
   case jr => intro w hSw; (try dsimp only at hSw); go_simp; try with_reducible rfl
   try simp only [Act.put, sq1, sq2, sq3]
   refine tH 3 ?vn4 rfl rfl ?jt ?ju
   case jt => intro w hSw; (try dsimp only at hSw); go_simp; try with_reducible rfl
   try simp only [Act.put, sq1, sq2, sq3]
   refine tH 4 ?vn5 rfl rfl ?jv ?jw
   case jv => intro w hSw; (try dsimp only at hSw); go_simp; try with_reducible rfl
   try simp only [Act.put, sq1, sq2, sq3]
   refine tH 5 ?vn6 rfl rfl ?jx ?jy
   case jx => intro w hSw; (try dsimp only at hSw); go_simp; try with_reducible rfl
   try simp only [Act.put, sq1, sq2, sq3]
   refine tH 6 ?vn7 rfl rfl ?jz ?jA
   case jz => intro w hSw; (try dsimp only at hSw); go_simp; try with_reducible rfl
   try simp only [Act.put, sq1, sq2, sq3]
   refine tH 7 ?vn8 rfl rfl ?jB ?jC
   case jB => intro w hSw; (try dsimp only at hSw); go_simp; try with_reducible rfl
   try simp only [Act.put, sq1, sq2, sq3]
   refine tH 8 ?vn9 rfl rfl ?jD ?jE
   case jD => intro w hSw; (try dsimp only at hSw); go_simp; try with_reducible rfl
   try simp only [Act.put, sq1, sq2, sq3]
   refine tH 10 ?jF rfl rfl ?jG ?jH
   case jG => intro w hSw; (try dsimp only at hSw); go_simp; try with_reducible rfl
   try simp only [Act.put, sq1, sq2, sq3]
   refine tH 11 ?jI rfl rfl ?jJ ?jK
   case jJ => intro w hSw; (try dsimp only at hSw); go_simp; try with_reducible rfl
   try simp only [Act.put, sq1, sq2, sq3]
   refine wpAnyH_ready (rs := [9, 12]) (by kernel_rfl) (by simp) ?_
   refine cH rfl (fun K hK => ?_) (cH rfl (fun K hK => ?_) (AllReadyH.nil))
   · go_simp
     try go_wp2_with fail
     refine hK.out _ _ ?jL ?jM
     case jL => (try dsimp only); first | exact ⟨e1, e2, e3⟩ | exact ⟨c1, c2, c3⟩
     clear hK K hHeld
     intro hHeld
     try simp only [Act.put, sq1, sq2, sq3]
     refine oH 12 rfl (fun K hK => ?_)
     go_simp
     (go_at_call 197; refine (gA _).out.mono ?_; rintro e w' ⟨rfl, hww⟩; cases hww)
     try go_wp2_with fail
     refine hK.out _ _ ?jN ?jO
     case jN => (try dsimp only); first | exact ⟨e1, e2, e3⟩ | exact ⟨c1, c2, c3⟩
     clear hK K hHeld
     intro hHeld
     try simp only [Act.put, sq1, sq2, sq3]
     refine tH 13 ?jP rfl rfl ?jQ ?jR
     case jQ => intro w hSw; (try dsimp only at hSw); go_simp; try with_reducible rfl
     try simp only [Act.put, sq1, sq2, sq3]
     refine tS 14 rfl rfl ?jS
     try simp only [Act.put, sq1, sq2, sq3]
     refine tS 15 rfl rfl ?jT
     try simp only [Act.put, sq1, sq2, sq3]
     refine tS 16 rfl rfl ?jU
     try simp only [Act.put, sq1, sq2, sq3]
     refine tH 17 ?jV rfl rfl ?jW ?jX
     case jW => intro w hSw; (try dsimp only at hSw); go_simp; try with_reducible rfl
     try simp only [Act.put, sq1, sq2, sq3]
     refine tH 18 ?jY rfl rfl ?jZ ?k0
     case jZ => intro w hSw; (try dsimp only at hSw); go_simp; try with_reducible rfl
     try simp only [Act.put, sq1, sq2, sq3]
     refine tH 19 ?k1 rfl rfl ?k2 ?k3
     case k2 => intro w hSw; (try dsimp only at hSw); go_simp; try with_reducible rfl
     try simp only [Act.put, sq1, sq2, sq3]
     refine eH ?_
     refine NoPanic.normal ?_
     go_wp2
     go_ret2
     refine ⟨B3.out, _, _, _, ?_, fun _ => by rw [HO.out]; exact O3.out⟩
     rw [HFI.out, decide_eq_false (fun h => HA.out h.1)]; rfl
   · go_simp
     (go_at_call 197; refine (gA _).out.mono ?_; rintro e w' ⟨rfl, hww⟩; cases hww)
     try go_wp2_with fail
     refine hK.out _ _ ?k4 ?k5
     case k4 => (try dsimp only); first | exact ⟨e1, e2, e3⟩ | exact ⟨c1, c2, c3⟩
     clear hK K hHeld
     intro hHeld
     try simp only [Act.put, sq1, sq2, sq3]
     refine tH 13 ?k6 rfl rfl ?k7 ?k8
     case k7 => intro w hSw; (try dsimp only at hSw); go_simp; try with_reducible rfl
     try simp only [Act.put, sq1, sq2, sq3]
     refine tS 14 rfl rfl ?k9
     try simp only [Act.put, sq1, sq2, sq3]
     refine tS 15 rfl rfl ?ka
     try simp only [Act.put, sq1, sq2, sq3]
     refine tS 16 rfl rfl ?kb
     try simp only [Act.put, sq1, sq2, sq3]
     refine tH 17 ?kc rfl rfl ?ke ?kf
     case ke => intro w hSw; (try dsimp only at hSw); go_simp; try with_reducible rfl
     try simp only [Act.put, sq1, sq2, sq3]
     refine oH 9 rfl (fun K hK => ?_)
     go_simp
     try go_wp2_with fail
     refine hK.out _ _ ?kg ?kh
     case kg => (try dsimp only); first | exact ⟨e1, e2, e3⟩ | exact ⟨c1, c2, c3⟩
     clear hK K hHeld
     intro hHeld
     try simp only [Act.put, sq1, sq2, sq3]
     refine tH 18 ?ki rfl rfl ?kj ?kk
     case kj => intro w hSw; (try dsimp only at hSw); go_simp; try with_reducible rfl
     try simp only [Act.put, sq1, sq2, sq3]
     refine tH 19 ?kl rfl rfl ?km ?kn
     case km => intro w hSw; (try dsimp only at hSw); go_simp; try with_reducible rfl
     try simp only [Act.put, sq1, sq2, sq3]
     refine eH ?_
     refine NoPanic.normal ?_
     go_wp2
     go_ret2
     refine ⟨B3.out, _, _, _, ?_, fun _ => by rw [HO.out]; exact O3.out⟩
     rw [HFI.out, decide_eq_false (fun h => HA.out h.1)]; rfl
theorem rone (hN : zHx) (i : IN) (h : kd i.op ≠ 0) (hp0 : 0 ≤ i.pl) (hp1 : i.pl ≤ 500000) (w : World) : Calls Tryz.prog 168 #[.agg #[.int .i64 i.pl, .int .i64 i.op, .int .i64 i.a, .int .i64 i.b]] w fun e w' => Below w.heap.size w w' ∧ ∃ ao n c, e = .returned (.tuple #[.slice ao n c, .bool (zAv i)]) ∧ (zAv i = true → w'.ownsRow w.heap.size 5 1 (.slice ao n c) (oneB i).length (zAj (oneB i))) := by
 rcases zGu i.op with e | e | e | e | e | e | e | e
 · exact absurd e h
 · exact rone1 hN i e w
 · exact rone2 hN i e w
 · exact rone3 hN i e w
 · exact rone4 hN i e w
 · exact rone5 hN i e w
 · exact rone6 hN i e hp0 hp1 w
 · exact rone7 hN i e w
theorem zLz (i : IN) (l : List IN) (out : List Int) : encL (i :: l) out = if kd i.op = 0 then ([], 15) else if i.pl ≠ (out.length : Int) then ([], 16) else if zAv i = false then ([], 1) else encL l (out ++ oneB i) := rfl
theorem zK1 : ∀ (l : List IN) (out : List Int), zAq out → zAq (encL l out).1
 | [], out, h => by
   unfold encL
   split
   · exact zAq.nil
   · exact h
 | i :: l, out, h => by
   rw [zLz]
   split
   · exact zAq.nil
   · rename_i hk
     split
     · exact zAq.nil
     · split
       · exact zAq.nil
       · exact zK1 l _ (h.append (zJt i hk))
theorem zKu (hN : zHx) (v : Value) (l : List IN) (w : World) (hv : zEb w v l) (hlen : l.length ≤ 400) :
 Calls Tryz.prog 146 #[v] w fun e w' => Below w.heap.size w w' ∧ ∃ v', e = .returned (.tuple #[v', .int .i64 (encL l []).2]) ∧ w'.ownsRow w.heap.size 5 1 v' (encL l []).1.length (zAj (encL l []).1) := by
 have HV := zA0 hv
 generalize hZ : encL l [] = Z at *
 have HZ := zA0 hZ
 have HNM := zA0 hN
 clear hZ hN
 obtain ⟨ao, cap, rfl, hc, hm, hl⟩ := hv
 unfold maxLen at hm
 go_enter Tryz.func146, Tryz.ntmps146
 go_wp2
 go_loopw [4, 5] (fun b ix wr => ∃ (k : Nat) (out : List Int), ix = .int .i64 (k : Int) ∧ k ≤ l.length ∧ out.length ≤ 3 * k ∧ Hid (zAq out ∧ encL (l.drop k) out = Z) ∧ wr.ownsRow w.heap.size 5 1 b out.length (zAj out) ∧ Below w.heap.size w wr) (fun _ ix _ => l.length - (intOf ix).toNat)
 case atStart => exact ⟨0, [], rfl, Nat.zero_le _, Nat.zero_le _, ⟨zAq.nil, HZ.out⟩, World.ownsRow_nil _ _ _ _, Below.refl _ _⟩
 case round =>
  clear HZ
  obtain ⟨k, out, rfl, hk, hout, HZ, ho, hb⟩ := hrel
  obtain ⟨aob, capb, rfl⟩ := zA4 ho
  by_cases hlt : k < l.length
  · have hlt' : (k : Int) < (l.length : Int) := by omega
    obtain ⟨i, hi⟩ : ∃ i, l[k]? = some i := ⟨l[k], List.getElem?_eq_getElem hlt⟩
    have HIV := zA0 (HV.out.below hb)
    obtain ⟨g, off, rfl, hI⟩ := HIV.out.row hi
    have HIA := zA0 hI
    obtain ⟨i0, i1, i2, i3⟩ := hI
    have hd : l.drop k = i :: l.drop (k + 1) := by
     rw [List.drop_eq_getElem_cons hlt]
     congr 1
     rw [List.getElem?_eq_getElem hlt] at hi; exact Option.some.inj hi
    have HZ1 : Hid (zAq out ∧ (if kd i.op = 0 then ([], 15) else if i.pl ≠ (out.length : Int) then ([], 16) else if zAv i = false then ([], 1) else encL (l.drop (k + 1)) (out ++ oneB i)) = Z) := by
     have h := HZ.out
     rw [hd, zLz] at h
     exact h
    have HB := zA0 hb
    have HO := zA0 ho
    have gS := zA0 (zJg HNM.out i.op wr)
    have hz0 := zKj i.op
    clear HZ hd hb ho hi HIV
    go_wp2_with fail
    refine gS.out.mono ?_
    rintro e w1 ⟨rfl, b1⟩
    have HB1 := zA0 (HB.out.trans (b1.mono HB.out.size))
    have HO1 := zA0 (zBx HO.out b1)
    have HIA1 := zA0 (HIA.out.below b1)
    clear gS b1 HIA HO HB i0 i1 i2 i3
    obtain ⟨j0, j1, j2, j3⟩ := id HIA1.out
    by_cases hk0 : kd i.op = 0
    · rw [hz0.2 hk0]
      have hz := HZ1.out.2
      rw [if_pos hk0] at hz
      subst hz
      clear HZ1 hz0 HV
      go_wp2
      go_ret2
      exact ⟨HB1.out, _, rfl, World.ownsRow_nil _ _ _ _⟩
    · have hz := HZ1.out
      rw [if_neg hk0] at hz
      have hsz : sz i.op ≠ 0 := fun h => hk0 (hz0.1 h)
      have HSL := zA0 (zPj i.op)
      have HL1 := zA0 (zG7 i hk0)
      generalize sz i.op = s at *
      have s0 : ((s : Int) == 0) = false := by simpa using hsz
      clear HZ1 hz0
      by_cases hpl : i.pl = (out.length : Int)
      · rw [if_neg (by simpa using hpl)] at hz
        have HZ2 := zA0 hz
        clear hz
        have hpl' : (i.pl == (out.length : Int)) = true := by simpa using hpl
        have GO := zA0 (rone HNM.out i hk0 (by omega) (by omega) w1)
        have HF := zA0 (zH1 i)
        generalize hfb : zAv i = fb at *
        clear hpl
        go_wp2_with fail
        refine GO.out.mono ?_
        rintro e w2 ⟨b2, aor, nr, cr, rfl, hown⟩
        have HB2 := zA0 (HB1.out.trans (b2.mono HB1.out.size))
        have HO2 := zA0 (zBx HO1.out b2)
        clear GO b2 HIA1 j0 j1 j2 j3 HB1
        cases fb with
        | true =>
          have hr := hown rfl
          have hz := HZ2.out
          rw [if_neg (by decide)] at hz
          have HZ3 := zA0 hz
          have hab := zJt i hk0
          have VR := View.of_own hr hab
          have zs := HB2.out.size
          have h3 := HSL.out
          have h4 := HL1.out
          have hnr : nr = s := by
           obtain ⟨_, _, e⟩ := zA4 hr
           cases e
           exact h4
          subst hnr
          clear hz HZ2 hown HF hfb hr
          have O2 := HO2.out
          go_wp2_with (at_builtin; refine zFg rfl _ _ rfl w.heap.size _ _ _ _ (oneB i) rfl O2 rfl VR (by omega) zs ?_; intro v3 w3 ho3 st3; obtain ⟨ao3, cap3, rfl⟩ := zA4 ho3; have HS3 := zA0 st3; have HO3 := zA0 ho3; clear st3 ho3 VR O2)
          have O3 := HO3.out
          have hb3 := HB2.out.trans (HS3.out.below zs (fun k hk => (HO2.out.lt k hk).1))
          exact ⟨⟨k + 1, out ++ oneB i, by go_num, by omega, by rw [List.length_append, h4]; omega, ⟨HZ3.out.1.append hab, HZ3.out.2⟩, by rw [zIt, List.length_append]; rw [h4] at O3 ⊢; exact O3, hb3⟩, by simp [intOf]; omega⟩
        | false =>
          have hz := HZ2.out.2
          rw [if_pos rfl] at hz
          subst hz
          clear HZ2 hown HF hfb
          go_wp2
          go_ret2
          exact ⟨HB2.out, _, rfl, World.ownsRow_nil _ _ _ _⟩
      · rw [if_pos hpl] at hz
        obtain ⟨_, rfl⟩ := hz
        have hpl' : (i.pl == (out.length : Int)) = false := by simpa using hpl
        go_wp2
        go_ret2
        exact ⟨HB1.out, _, rfl, World.ownsRow_nil _ _ _ _⟩
  · have hlt' : ¬ (k : Int) < (l.length : Int) := by omega
    have hz := HZ.out.2
    rw [List.drop_eq_nil_of_le (by omega)] at hz
    unfold encL at hz
    have HB := zA0 hb
    have HO := zA0 ho
    clear HZ hb ho HV
    by_cases hbig : 1024 < out.length
    · have hb' : (1024 : Int) < (out.length : Int) := by omega
      rw [if_pos hbig] at hz
      subst hz
      go_wp2
      go_ret2
      exact ⟨HB.out, _, rfl, World.ownsRow_nil _ _ _ _⟩
    · have hb' : ¬ (1024 : Int) < (out.length : Int) := by omega
      rw [if_neg hbig] at hz
      subst hz
      go_wp2
      go_ret2
      exact ⟨HB.out, _, rfl, HO.out⟩
theorem zQx {P : Program} {w w' : World} {o : Oper} {a : Act} {K : Act → World → Prop} {Q : Exit → Act → World → Prop} (t n : Nat) (parts : Array (Nat × Operand)) (hop : o.op = .buildSlice t n parts)
 (ps : Array (Nat × Value)) (hp : (parts.map fun (i, x) => (i, a.eval x)) = ps) {v : Value} (hrun : (Instr.buildSlice t n ps).run P w = .ok v w') (h : K (a.put o.dst v) w') : Oper.wp P o a w K Q := by
 unfold Oper.wp
 simp only [execOp, hop, hp, Sem.run_bind, hrun, Result.andThen_ok, Sem.run_pure]
 exact h
theorem zRc (op : Int) (w : World) : Calls Tryz.prog 167 #[.int .i64 op] w fun e w' => e = .returned (.string (zFx op)) ∧ Below w.heap.size w w' := by
 have HT : Hid ((w.alloc tab5).heap[w.heap.size]? = some tab5) := heap_alloc_new _ _
 have HB : Hid (Below w.heap.size w (w.alloc tab5)) := zBl _ _
 have HL := zA0 zP6
 have HF := zA0 (fun (j : Nat) (p : Int × ByteArray) hp h hn => zSf (op := op) (j := j) (p := p) hp h hn)
 have HZ := zA0 (fun hn => zNy (op := op) hn)
 have HC := zA0 (fun (j : Nat) (p : Int × ByteArray) hp => zQ0 HT.out (j := j) (p := p) hp)
 generalize zFx op = res at *
 have HR := zA0 (zPt w)
 generalize w.alloc tab5 = wt at *
 go_enter Tryz.func167, Tryz.ntmps167
 go_wp2
 refine zQx 220 71 _ rfl zLj (by first | (rw [List.map_toArray]; rfl) | kernel_rfl) HR.out ?_
 clear HR
 go_wp2
 go_loopw [4] (fun i wr => ∃ j : Nat, j ≤ 71 ∧ i = .int .i64 (j : Int) ∧ wr = wt ∧ Hid (∀ q ∈ zCg.take j, q.1 ≠ op)) (fun i _ => 71 - (intOf i).toNat)
 case atStart => exact ⟨0, by omega, rfl, rfl, fun q hq => by simp at hq⟩
 case round =>
  obtain ⟨j, hj, rfl, rfl, HQ⟩ := hrel
  by_cases hlt : j < 71
  · have hlt' : (j : Int) < 71 := by omega
    obtain ⟨p, hp⟩ : ∃ p, zCg[j]? = some p := ⟨_, List.getElem?_eq_getElem (by rw [HL.out]; exact hlt)⟩
    obtain ⟨c0, c1⟩ := HC.out j p hp
    by_cases he : p.1 = op
    · have HE := zA0 (HF.out j p hp he HQ.out)
      have he' : (p.1 == op) = true := by simpa using he
      clear HF HZ HC HQ hp he
      go_wp2
      go_ret
      rw [HE.out]
      exact ⟨rfl, HB.out⟩
    · have he' : (p.1 == op) = false := by simpa using he
      have HQ2 : Hid (∀ q ∈ zCg.take (j + 1), q.1 ≠ op) := by
       intro q hq
       rw [List.take_add_one, hp] at hq
       rcases List.mem_append.1 hq with h | h
       · exact HQ.out q h
       · simp at h; subst h; exact he
      clear HF HZ HC HQ hp he
      go_wp2
      exact ⟨⟨j + 1, by omega, by go_num, (by first | rfl | trivial), HQ2.out⟩, by simp [intOf]; omega⟩
  · have hlt' : ¬ (j : Int) < 71 := by omega
    have hE := HZ.out (fun q hq => HQ.out q (by rw [List.take_of_length_le (by rw [HL.out]; omega)]; exact hq))
    have HE := zA0 hE
    clear HF HZ HC HQ hE
    go_wp2
    go_ret
    rw [HE.out]
    exact ⟨rfl, HB.out⟩
end Go.Proofs.YtpehimfnkmepnaaGreat
