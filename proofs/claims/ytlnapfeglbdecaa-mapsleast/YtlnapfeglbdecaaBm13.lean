/- Texts RQ E RE RN MW D. -/
import Derived.Test.YtlnapfeglbdecaaBm12
import Derived.Test.YtlnapfeglbdecaaBm05
import Derived.Test.YtlnapfeglbdecaaBm11
import Derived.Test.YtlnapfeglbdecaaBm02
namespace Go.Proofs.Ytlnapfeglbdecaa
open Go.RowKit
set_option maxRecDepth 8000 in
set_option maxHeartbeats 4000000 in
theorem rone7 (hN : NameC) (i : IN) (h : kd i.op = 7) (w : World) : Calls Try.prog 63 #[.agg #[.int .i64 i.pl, .int .i64 i.op, .int .i64 i.a, .int .i64 i.b]] w fun e w' => Below w.heap.size w w' ∧ ∃ ao n c, e = .returned (.tuple #[.slice ao n c, .bool (fitsB i)]) ∧ (fitsB i = true → w'.ownsRow w.heap.size 5 1 (.slice ao n c) (oneB i).length (bcells (oneB i))) := by
  have hop : i.op = 132 := by
    unfold kd at h
    repeat' split at h
    all_goals first | assumption | omega
  have B0 := hidIt (r5_alloc w (box5 i))
  have X0 : Hid ((w.alloc (box5 i)).heap[w.heap.size]? = some (box5 i)) := heap_alloc_new _ _
  have gS := fun W => hidIt (rsize hN i.op W)
  have gA := fun W => hidIt (rin i.a 0 255 W)
  have gI := fun W => hidIt (rin i.b (-128) 127 W)
  have hs : sz i.op = 3 := by unfold sz; rw [h]; rfl
  rw [hs] at gS
  have HFI : Hid (fitsB i = decide ((0 ≤ i.a ∧ i.a ≤ 255) ∧ -128 ≤ i.b ∧ i.b ≤ 127)) := by show _ = _; unfold fitsB; rw [h]; rfl
  have HO : Hid (oneB i = [i.op, i.a % 256, i.b % 256]) := by show _ = _; unfold oneB; rw [h]; rfl
  clear hs hN h
  unfold box5 at B0 X0
  unfold in5 at gI gA
  generalize fitsB i = fi at *
  generalize oneB i = ob at *
  obtain ⟨pl, op, a, b⟩ := i
  simp only at *
  subst hop
  have HIN : Hid ((decide ((0 : Int) ≤ a) && decide (a ≤ 255)) = decide (0 ≤ a ∧ a ≤ 255) ∧ (decide ((-128 : Int) ≤ b) && decide (b ≤ 127)) = decide (-128 ≤ b ∧ b ≤ 127)) := ⟨by rw [Bool.decide_and], by rw [Bool.decide_and]⟩
  rw [HIN.out.1] at gA
  rw [HIN.out.2] at gI
  have hwa : IntKind.u8.wrap a = a % 256 := by simp [IntKind.wrap, IntKind.bits, IntKind.signed]
  have hwb : IntKind.u8.wrap b = b % 256 := by simp [IntKind.wrap, IntKind.bits, IntKind.signed]
  generalize hq : decide (-128 ≤ b ∧ b ≤ 127) = q at *
  have HQ := hidIt hq
  clear hq HIN
  go_enter Try.func63, Try.ntmps63
  go_wp2_with fail
  refine (gS _).out.mono ?_
  rintro e w2 ⟨rfl, b2⟩
  have B2 := hidIt (B0.out.trans (b2.mono (by simp)))
  have X2 := hidIt ((b2.block _ (by simp)).trans X0.out)
  clear b2 B0 X0 gS
  have e1 := r5_cell X2.out 1 rfl
  have e2 := r5_cell X2.out 2 rfl
  have e3 := r5_cell X2.out 3 rfl
  have Y2 := hidIt ((heap_alloc_old w2 (.cells #[.int .u8 132, .int .u8 (a % 256), .int .u8 (b % 256)] 5) (Array.getElem?_eq_some_iff.1 X2.out).1).trans X2.out)
  have c1 := r5_cell Y2.out 1 rfl
  have c2 := r5_cell Y2.out 2 rfl
  have c3 := r5_cell Y2.out 3 rfl
  have B3 : Hid (Below w.heap.size w (w2.alloc (.cells #[.int .u8 132, .int .u8 (a % 256), .int .u8 (b % 256)] 5)).drew) := below_drewN (B2.out.trans ((r5_alloc w2 (.cells #[.int .u8 132, .int .u8 (a % 256), .int .u8 (b % 256)] 5)).mono B2.out.size)) 1
  have O3 : Hid ((w2.alloc (.cells #[.int .u8 132, .int .u8 (a % 256), .int .u8 (b % 256)] 5)).drew.ownsRow w.heap.size 5 1 (.slice (some ⟨w2.heap.size, 0, none⟩) 3 3) [132, a % 256, b % 256].length (bcells [132, a % 256, b % 256])) := by
    refine ⟨rfl, .inr ⟨w2.heap.size, 3, #[.int .u8 132, .int .u8 (a % 256), .int .u8 (b % 256)], rfl, B2.out.size, heap_alloc_new w2 (.cells #[.int .u8 132, .int .u8 (a % 256), .int .u8 (b % 256)] 5), Nat.le_refl _, by unfold maxLen; omega, rfl, rfl⟩⟩
  by_cases hA : 0 ≤ a ∧ a ≤ 255
  · rw [decide_eq_true hA] at gA
    have HA := hidIt hA
    clear hA
    go_wp2_with fail
    refine wp_region_noPanic ?_
    refine wp_region_held_drew (S := fun W => W.cell? ⟨w.heap.size, 1, none⟩ = some (.int .i64 132) ∧ W.cell? ⟨w.heap.size, 2, none⟩ = some (.int .i64 a) ∧ W.cell? ⟨w.heap.size, 3, none⟩ = some (.int .i64 b)) (by kernel_rfl) ?_ (fun hHeld => ?_)
    · (try dsimp only); first | exact ⟨e1, e2, e3⟩ | exact ⟨c1, c2, c3⟩
    refine tH 0 ?vp1 rfl rfl ?hyp1 ?restp1
    case hyp1 => intro w hSw; (try dsimp only at hSw); go_simp; try with_reducible rfl
    try simp only [Act.put, sq1, sq2, sq3]
    refine tH 1 ?vp2 rfl rfl ?hyp2 ?restp2
    case hyp2 => intro w hSw; (try dsimp only at hSw); go_simp; try with_reducible rfl
    try simp only [Act.put, sq1, sq2, sq3]
    refine tH 2 ?vp3 rfl rfl ?hyp3 ?restp3
    case hyp3 => intro w hSw; (try dsimp only at hSw); go_simp; try with_reducible rfl
    try simp only [Act.put, sq1, sq2, sq3]
    refine tH 3 ?vp4 rfl rfl ?hyp4 ?restp4
    case hyp4 => intro w hSw; (try dsimp only at hSw); go_simp; try with_reducible rfl
    try simp only [Act.put, sq1, sq2, sq3]
    refine tH 4 ?vp5 rfl rfl ?hyp5 ?restp5
    case hyp5 => intro w hSw; (try dsimp only at hSw); go_simp; try with_reducible rfl
    try simp only [Act.put, sq1, sq2, sq3]
    refine tH 5 ?vp6 rfl rfl ?hyp6 ?restp6
    case hyp6 => intro w hSw; (try dsimp only at hSw); go_simp; try with_reducible rfl
    try simp only [Act.put, sq1, sq2, sq3]
    refine tH 6 ?vp7 rfl rfl ?hyp7 ?restp7
    case hyp7 => intro w hSw; (try dsimp only at hSw); go_simp; try with_reducible rfl
    try simp only [Act.put, sq1, sq2, sq3]
    refine tH 7 ?vp8 rfl rfl ?hyp8 ?restp8
    case hyp8 => intro w hSw; (try dsimp only at hSw); go_simp; try with_reducible rfl
    try simp only [Act.put, sq1, sq2, sq3]
    refine tH 8 ?vp9 rfl rfl ?hyp9 ?restp9
    case hyp9 => intro w hSw; (try dsimp only at hSw); go_simp; try with_reducible rfl
    try simp only [Act.put, sq1, sq2, sq3]
    refine tH 10 ?vp10 rfl rfl ?hyp10 ?restp10
    case hyp10 => intro w hSw; (try dsimp only at hSw); go_simp; try with_reducible rfl
    try simp only [Act.put, sq1, sq2, sq3]
    refine tH 11 ?vp11 rfl rfl ?hyp11 ?restp11
    case hyp11 => intro w hSw; (try dsimp only at hSw); go_simp; try with_reducible rfl
    try simp only [Act.put, sq1, sq2, sq3]
    refine wpAnyH_ready (rs := [9, 12]) (by kernel_rfl) (by simp) ?_
    refine cH rfl (fun K hK => ?_) (cH rfl (fun K hK => ?_) (AllReadyH.nil))
    · go_simp
      try go_wp2_with fail
      refine hK.out _ _ ?hSp12 ?restp12
      case hSp12 => (try dsimp only); first | exact ⟨e1, e2, e3⟩ | exact ⟨c1, c2, c3⟩
      clear hK K hHeld
      intro hHeld
      try simp only [Act.put, sq1, sq2, sq3]
      refine oH 12 rfl (fun K hK => ?_)
      go_simp
      (go_at_call 71; refine (gA _).out.mono ?_; rintro e w' ⟨rfl, hww⟩; cases hww)
      try go_wp2_with fail
      refine hK.out _ _ ?hSp13 ?restp13
      case hSp13 => (try dsimp only); first | exact ⟨e1, e2, e3⟩ | exact ⟨c1, c2, c3⟩
      clear hK K hHeld
      intro hHeld
      try simp only [Act.put, sq1, sq2, sq3]
      refine tH 13 ?vp14 rfl rfl ?hyp14 ?restp14
      case hyp14 => intro w hSw; (try dsimp only at hSw); go_simp; try with_reducible rfl
      try simp only [Act.put, sq1, sq2, sq3]
      refine tH 14 ?vp15 rfl rfl ?hyp15 ?restp15
      case hyp15 => intro w hSw; (try dsimp only at hSw); go_simp; try with_reducible rfl
      try simp only [Act.put, sq1, sq2, sq3]
      refine tH 15 ?vp16 rfl rfl ?hyp16 ?restp16
      case hyp16 => intro w hSw; (try dsimp only at hSw); go_simp; try with_reducible rfl
      try simp only [Act.put, sq1, sq2, sq3]
      refine oH 16 rfl (fun K hK => ?_)
      go_simp
      (go_at_call 71; refine (gI _).out.mono ?_; rintro e w' ⟨rfl, hww⟩; cases hww)
      try go_wp2_with fail
      refine hK.out _ _ ?hSp17 ?restp17
      case hSp17 => (try dsimp only); first | exact ⟨e1, e2, e3⟩ | exact ⟨c1, c2, c3⟩
      clear hK K hHeld
      intro hHeld
      try simp only [Act.put, sq1, sq2, sq3]
      refine tH 17 ?vp18 rfl rfl ?hyp18 ?restp18
      case hyp18 => intro w hSw; (try dsimp only at hSw); go_simp; try with_reducible rfl
      try simp only [Act.put, sq1, sq2, sq3]
      refine tH 18 ?vp19 rfl rfl ?hyp19 ?restp19
      case hyp19 => intro w hSw; (try dsimp only at hSw); go_simp; try with_reducible rfl
      try simp only [Act.put, sq1, sq2, sq3]
      refine tH 19 ?vp20 rfl rfl ?hyp20 ?restp20
      case hyp20 => intro w hSw; (try dsimp only at hSw); go_simp; try with_reducible rfl
      try simp only [Act.put, sq1, sq2, sq3]
      refine eH ?_
      refine NoPanic.normal ?_
      go_wp2
      go_ret2
      refine ⟨B3.out, _, _, _, ?_, fun _ => by rw [HO.out]; exact O3.out⟩
      rw [HFI.out, ← HQ.out]; simp [HA.out]
    · go_simp
      (go_at_call 71; refine (gA _).out.mono ?_; rintro e w' ⟨rfl, hww⟩; cases hww)
      try go_wp2_with fail
      refine hK.out _ _ ?hSp21 ?restp21
      case hSp21 => (try dsimp only); first | exact ⟨e1, e2, e3⟩ | exact ⟨c1, c2, c3⟩
      clear hK K hHeld
      intro hHeld
      try simp only [Act.put, sq1, sq2, sq3]
      refine tH 13 ?vp22 rfl rfl ?hyp22 ?restp22
      case hyp22 => intro w hSw; (try dsimp only at hSw); go_simp; try with_reducible rfl
      try simp only [Act.put, sq1, sq2, sq3]
      refine tH 14 ?vp23 rfl rfl ?hyp23 ?restp23
      case hyp23 => intro w hSw; (try dsimp only at hSw); go_simp; try with_reducible rfl
      try simp only [Act.put, sq1, sq2, sq3]
      refine tH 15 ?vp24 rfl rfl ?hyp24 ?restp24
      case hyp24 => intro w hSw; (try dsimp only at hSw); go_simp; try with_reducible rfl
      try simp only [Act.put, sq1, sq2, sq3]
      refine wpAnyH_ready (rs := [9, 16]) (by kernel_rfl) (by simp) ?_
      refine cH rfl (fun K hK => ?_) (cH rfl (fun K hK => ?_) (AllReadyH.nil))
      · go_simp
        try go_wp2_with fail
        refine hK.out _ _ ?hSp25 ?restp25
        case hSp25 => (try dsimp only); first | exact ⟨e1, e2, e3⟩ | exact ⟨c1, c2, c3⟩
        clear hK K hHeld
        intro hHeld
        try simp only [Act.put, sq1, sq2, sq3]
        refine oH 16 rfl (fun K hK => ?_)
        go_simp
        (go_at_call 71; refine (gI _).out.mono ?_; rintro e w' ⟨rfl, hww⟩; cases hww)
        try go_wp2_with fail
        refine hK.out _ _ ?hSp26 ?restp26
        case hSp26 => (try dsimp only); first | exact ⟨e1, e2, e3⟩ | exact ⟨c1, c2, c3⟩
        clear hK K hHeld
        intro hHeld
        try simp only [Act.put, sq1, sq2, sq3]
        refine tH 17 ?vp27 rfl rfl ?hyp27 ?restp27
        case hyp27 => intro w hSw; (try dsimp only at hSw); go_simp; try with_reducible rfl
        try simp only [Act.put, sq1, sq2, sq3]
        refine tH 18 ?vp28 rfl rfl ?hyp28 ?restp28
        case hyp28 => intro w hSw; (try dsimp only at hSw); go_simp; try with_reducible rfl
        try simp only [Act.put, sq1, sq2, sq3]
        refine tH 19 ?vp29 rfl rfl ?hyp29 ?restp29
        case hyp29 => intro w hSw; (try dsimp only at hSw); go_simp; try with_reducible rfl
        try simp only [Act.put, sq1, sq2, sq3]
        refine eH ?_
        refine NoPanic.normal ?_
        go_wp2
        go_ret2
        refine ⟨B3.out, _, _, _, ?_, fun _ => by rw [HO.out]; exact O3.out⟩
        rw [HFI.out, ← HQ.out]; simp [HA.out]
      · go_simp
        (go_at_call 71; refine (gI _).out.mono ?_; rintro e w' ⟨rfl, hww⟩; cases hww)
        try go_wp2_with fail
        refine hK.out _ _ ?hSp30 ?restp30
        case hSp30 => (try dsimp only); first | exact ⟨e1, e2, e3⟩ | exact ⟨c1, c2, c3⟩
        clear hK K hHeld
        intro hHeld
        try simp only [Act.put, sq1, sq2, sq3]
        refine tH 17 ?vp31 rfl rfl ?hyp31 ?restp31
        case hyp31 => intro w hSw; (try dsimp only at hSw); go_simp; try with_reducible rfl
        try simp only [Act.put, sq1, sq2, sq3]
        refine oH 9 rfl (fun K hK => ?_)
        go_simp
        try go_wp2_with fail
        refine hK.out _ _ ?hSp32 ?restp32
        case hSp32 => (try dsimp only); first | exact ⟨e1, e2, e3⟩ | exact ⟨c1, c2, c3⟩
        clear hK K hHeld
        intro hHeld
        try simp only [Act.put, sq1, sq2, sq3]
        refine tH 18 ?vp33 rfl rfl ?hyp33 ?restp33
        case hyp33 => intro w hSw; (try dsimp only at hSw); go_simp; try with_reducible rfl
        try simp only [Act.put, sq1, sq2, sq3]
        refine tH 19 ?vp34 rfl rfl ?hyp34 ?restp34
        case hyp34 => intro w hSw; (try dsimp only at hSw); go_simp; try with_reducible rfl
        try simp only [Act.put, sq1, sq2, sq3]
        refine eH ?_
        refine NoPanic.normal ?_
        go_wp2
        go_ret2
        refine ⟨B3.out, _, _, _, ?_, fun _ => by rw [HO.out]; exact O3.out⟩
        rw [HFI.out, ← HQ.out]; simp [HA.out]
  · rw [decide_eq_false hA] at gA
    have HA := hidIt hA
    clear hA
    go_wp2_with fail
    refine wp_region_noPanic ?_
    refine wp_region_held_drew (S := fun W => W.cell? ⟨w.heap.size, 1, none⟩ = some (.int .i64 132) ∧ W.cell? ⟨w.heap.size, 2, none⟩ = some (.int .i64 a) ∧ W.cell? ⟨w.heap.size, 3, none⟩ = some (.int .i64 b)) (by kernel_rfl) ?_ (fun hHeld => ?_)
    · (try dsimp only); first | exact ⟨e1, e2, e3⟩ | exact ⟨c1, c2, c3⟩
    refine tH 0 ?vn1 rfl rfl ?hyn1 ?restn1
    case hyn1 => intro w hSw; (try dsimp only at hSw); go_simp; try with_reducible rfl
    try simp only [Act.put, sq1, sq2, sq3]
    refine tH 1 ?vn2 rfl rfl ?hyn2 ?restn2
    case hyn2 => intro w hSw; (try dsimp only at hSw); go_simp; try with_reducible rfl
    try simp only [Act.put, sq1, sq2, sq3]
    refine tH 2 ?vn3 rfl rfl ?hyn3 ?restn3
    case hyn3 => intro w hSw; (try dsimp only at hSw); go_simp; try with_reducible rfl
    try simp only [Act.put, sq1, sq2, sq3]
    refine tH 3 ?vn4 rfl rfl ?hyn4 ?restn4
    case hyn4 => intro w hSw; (try dsimp only at hSw); go_simp; try with_reducible rfl
    try simp only [Act.put, sq1, sq2, sq3]
    refine tH 4 ?vn5 rfl rfl ?hyn5 ?restn5
    case hyn5 => intro w hSw; (try dsimp only at hSw); go_simp; try with_reducible rfl
    try simp only [Act.put, sq1, sq2, sq3]
    refine tH 5 ?vn6 rfl rfl ?hyn6 ?restn6
    case hyn6 => intro w hSw; (try dsimp only at hSw); go_simp; try with_reducible rfl
    try simp only [Act.put, sq1, sq2, sq3]
    refine tH 6 ?vn7 rfl rfl ?hyn7 ?restn7
    case hyn7 => intro w hSw; (try dsimp only at hSw); go_simp; try with_reducible rfl
    try simp only [Act.put, sq1, sq2, sq3]
    refine tH 7 ?vn8 rfl rfl ?hyn8 ?restn8
    case hyn8 => intro w hSw; (try dsimp only at hSw); go_simp; try with_reducible rfl
    try simp only [Act.put, sq1, sq2, sq3]
    refine tH 8 ?vn9 rfl rfl ?hyn9 ?restn9
    case hyn9 => intro w hSw; (try dsimp only at hSw); go_simp; try with_reducible rfl
    try simp only [Act.put, sq1, sq2, sq3]
    refine tH 10 ?vn10 rfl rfl ?hyn10 ?restn10
    case hyn10 => intro w hSw; (try dsimp only at hSw); go_simp; try with_reducible rfl
    try simp only [Act.put, sq1, sq2, sq3]
    refine tH 11 ?vn11 rfl rfl ?hyn11 ?restn11
    case hyn11 => intro w hSw; (try dsimp only at hSw); go_simp; try with_reducible rfl
    try simp only [Act.put, sq1, sq2, sq3]
    refine wpAnyH_ready (rs := [9, 12]) (by kernel_rfl) (by simp) ?_
    refine cH rfl (fun K hK => ?_) (cH rfl (fun K hK => ?_) (AllReadyH.nil))
    · go_simp
      try go_wp2_with fail
      refine hK.out _ _ ?hSn12 ?restn12
      case hSn12 => (try dsimp only); first | exact ⟨e1, e2, e3⟩ | exact ⟨c1, c2, c3⟩
      clear hK K hHeld
      intro hHeld
      try simp only [Act.put, sq1, sq2, sq3]
      refine oH 12 rfl (fun K hK => ?_)
      go_simp
      (go_at_call 71; refine (gA _).out.mono ?_; rintro e w' ⟨rfl, hww⟩; cases hww)
      try go_wp2_with fail
      refine hK.out _ _ ?hSn13 ?restn13
      case hSn13 => (try dsimp only); first | exact ⟨e1, e2, e3⟩ | exact ⟨c1, c2, c3⟩
      clear hK K hHeld
      intro hHeld
      try simp only [Act.put, sq1, sq2, sq3]
      refine tH 13 ?vn14 rfl rfl ?hyn14 ?restn14
      case hyn14 => intro w hSw; (try dsimp only at hSw); go_simp; try with_reducible rfl
      try simp only [Act.put, sq1, sq2, sq3]
      refine tS 14 rfl rfl ?restn15
      try simp only [Act.put, sq1, sq2, sq3]
      refine tS 15 rfl rfl ?restn16
      try simp only [Act.put, sq1, sq2, sq3]
      refine tS 16 rfl rfl ?restn17
      try simp only [Act.put, sq1, sq2, sq3]
      refine tH 17 ?vn18 rfl rfl ?hyn18 ?restn18
      case hyn18 => intro w hSw; (try dsimp only at hSw); go_simp; try with_reducible rfl
      try simp only [Act.put, sq1, sq2, sq3]
      refine tH 18 ?vn19 rfl rfl ?hyn19 ?restn19
      case hyn19 => intro w hSw; (try dsimp only at hSw); go_simp; try with_reducible rfl
      try simp only [Act.put, sq1, sq2, sq3]
      refine tH 19 ?vn20 rfl rfl ?hyn20 ?restn20
      case hyn20 => intro w hSw; (try dsimp only at hSw); go_simp; try with_reducible rfl
      try simp only [Act.put, sq1, sq2, sq3]
      refine eH ?_
      refine NoPanic.normal ?_
      go_wp2
      go_ret2
      refine ⟨B3.out, _, _, _, ?_, fun _ => by rw [HO.out]; exact O3.out⟩
      rw [HFI.out, decide_eq_false (fun h => HA.out h.1)]; rfl
    · go_simp
      (go_at_call 71; refine (gA _).out.mono ?_; rintro e w' ⟨rfl, hww⟩; cases hww)
      try go_wp2_with fail
      refine hK.out _ _ ?hSn21 ?restn21
      case hSn21 => (try dsimp only); first | exact ⟨e1, e2, e3⟩ | exact ⟨c1, c2, c3⟩
      clear hK K hHeld
      intro hHeld
      try simp only [Act.put, sq1, sq2, sq3]
      refine tH 13 ?vn22 rfl rfl ?hyn22 ?restn22
      case hyn22 => intro w hSw; (try dsimp only at hSw); go_simp; try with_reducible rfl
      try simp only [Act.put, sq1, sq2, sq3]
      refine tS 14 rfl rfl ?restn23
      try simp only [Act.put, sq1, sq2, sq3]
      refine tS 15 rfl rfl ?restn24
      try simp only [Act.put, sq1, sq2, sq3]
      refine tS 16 rfl rfl ?restn25
      try simp only [Act.put, sq1, sq2, sq3]
      refine tH 17 ?vn26 rfl rfl ?hyn26 ?restn26
      case hyn26 => intro w hSw; (try dsimp only at hSw); go_simp; try with_reducible rfl
      try simp only [Act.put, sq1, sq2, sq3]
      refine oH 9 rfl (fun K hK => ?_)
      go_simp
      try go_wp2_with fail
      refine hK.out _ _ ?hSn27 ?restn27
      case hSn27 => (try dsimp only); first | exact ⟨e1, e2, e3⟩ | exact ⟨c1, c2, c3⟩
      clear hK K hHeld
      intro hHeld
      try simp only [Act.put, sq1, sq2, sq3]
      refine tH 18 ?vn28 rfl rfl ?hyn28 ?restn28
      case hyn28 => intro w hSw; (try dsimp only at hSw); go_simp; try with_reducible rfl
      try simp only [Act.put, sq1, sq2, sq3]
      refine tH 19 ?vn29 rfl rfl ?hyn29 ?restn29
      case hyn29 => intro w hSw; (try dsimp only at hSw); go_simp; try with_reducible rfl
      try simp only [Act.put, sq1, sq2, sq3]
      refine eH ?_
      refine NoPanic.normal ?_
      go_wp2
      go_ret2
      refine ⟨B3.out, _, _, _, ?_, fun _ => by rw [HO.out]; exact O3.out⟩
      rw [HFI.out, decide_eq_false (fun h => HA.out h.1)]; rfl
theorem rone (hN : NameC) (i : IN) (h : kd i.op ≠ 0) (hp0 : 0 ≤ i.pl) (hp1 : i.pl ≤ 500000) (w : World) : Calls Try.prog 63 #[.agg #[.int .i64 i.pl, .int .i64 i.op, .int .i64 i.a, .int .i64 i.b]] w fun e w' => Below w.heap.size w w' ∧ ∃ ao n c, e = .returned (.tuple #[.slice ao n c, .bool (fitsB i)]) ∧ (fitsB i = true → w'.ownsRow w.heap.size 5 1 (.slice ao n c) (oneB i).length (bcells (oneB i))) := by
  rcases kd_cases i.op with e | e | e | e | e | e | e | e
  · exact absurd e h
  · exact rone1 hN i e w
  · exact rone2 hN i e w
  · exact rone3 hN i e w
  · exact rone4 hN i e w
  · exact rone5 hN i e w
  · exact rone6 hN i e hp0 hp1 w
  · exact rone7 hN i e w
end Go.Proofs.Ytlnapfeglbdecaa
namespace Go.Proofs.Ytlnapfeglbdecaa
open Go.RowKit
theorem enc_step (i : IN) (l : List IN) (out : List Int) : encL (i :: l) out = if kd i.op = 0 then ([], 15) else if i.pl ≠ (out.length : Int) then ([], 16) else if fitsB i = false then ([], 1) else encL l (out ++ oneB i) := rfl
theorem enc_bytes : ∀ (l : List IN) (out : List Int), AllBytes out → AllBytes (encL l out).1
  | [], out, h => by
    unfold encL
    split
    · exact AllBytes.nil
    · exact h
  | i :: l, out, h => by
    rw [enc_step]
    split
    · exact AllBytes.nil
    · rename_i hk
      split
      · exact AllBytes.nil
      · split
        · exact AllBytes.nil
        · exact enc_bytes l _ (h.append (one_bytes i hk))
theorem View.from {w : World} {g off c p : Nat} {l : List Int} (h : View w (.slice (some ⟨g, off, none⟩) l.length c) l) (hp : p ≤ l.length) : View w (.slice (some ⟨g, off + p, none⟩) (l.length - p) (c - p)) (l.drop p) := by
  obtain ⟨ao', cap, e, hc, hm, hy, hl⟩ := h
  cases e
  refine ⟨_, c - p, by rw [List.length_drop], by rw [List.length_drop]; omega, by omega, fun x hx => hy x (List.mem_of_mem_drop hx), ?_⟩
  rcases hl with rfl | ⟨g', off', e, hl⟩
  · exact .inl (by simp)
  · cases e
    refine .inr ⟨g, off + p, rfl, fun j x hj => ?_⟩
    rw [List.getElem?_drop] at hj
    rw [Nat.add_assoc]
    exact hl (p + j) x hj
end Go.Proofs.Ytlnapfeglbdecaa
namespace Go.Proofs.Ytlnapfeglbdecaa
open Go.RowKit
set_option maxRecDepth 8000 in
set_option maxHeartbeats 4000000 in
theorem rencode_any (hN : NameC) (v : Value) (l : List IN) (w : World) (hv : IView w v l) (hlen : l.length ≤ 400) :
    Calls Try.prog 47 #[v] w fun e w' => Below w.heap.size w w' ∧ ∃ v', e = .returned (.tuple #[v', .int .i64 (encL l []).2]) ∧ w'.ownsRow w.heap.size 5 1 v' (encL l []).1.length (bcells (encL l []).1) := by
  have HV := hidIt hv
  generalize hZ : encL l [] = Z at *
  have HZ := hidIt hZ
  have HNM := hidIt hN
  clear hZ hN
  obtain ⟨ao, cap, rfl, hc, hm, hl⟩ := hv
  unfold maxLen at hm
  go_enter Try.func47, Try.ntmps47
  go_wp2
  go_loopw [4, 5] (fun b ix wr => ∃ (k : Nat) (out : List Int), ix = .int .i64 (k : Int) ∧ k ≤ l.length ∧ out.length ≤ 3 * k ∧ Hid (AllBytes out ∧ encL (l.drop k) out = Z) ∧ wr.ownsRow w.heap.size 5 1 b out.length (bcells out) ∧ Below w.heap.size w wr) (fun _ ix _ => l.length - (intOf ix).toNat)
  case atStart => exact ⟨0, [], rfl, Nat.zero_le _, Nat.zero_le _, ⟨AllBytes.nil, HZ.out⟩, World.ownsRow_nil _ _ _ _, Below.refl _ _⟩
  case round =>
    clear HZ
    obtain ⟨k, out, rfl, hk, hout, HZ, ho, hb⟩ := hrel
    obtain ⟨aob, capb, rfl⟩ := own_slice ho
    by_cases hlt : k < l.length
    · have hlt' : (k : Int) < (l.length : Int) := by omega
      obtain ⟨i, hi⟩ : ∃ i, l[k]? = some i := ⟨l[k], List.getElem?_eq_getElem hlt⟩
      have HIV := hidIt (HV.out.below hb)
      obtain ⟨g, off, rfl, hI⟩ := HIV.out.row hi
      have HIA := hidIt hI
      obtain ⟨i0, i1, i2, i3⟩ := hI
      have hd : l.drop k = i :: l.drop (k + 1) := by
        rw [List.drop_eq_getElem_cons hlt]
        congr 1
        rw [List.getElem?_eq_getElem hlt] at hi; exact Option.some.inj hi
      have HZ1 : Hid (AllBytes out ∧ (if kd i.op = 0 then ([], 15) else if i.pl ≠ (out.length : Int) then ([], 16) else if fitsB i = false then ([], 1) else encL (l.drop (k + 1)) (out ++ oneB i)) = Z) := by
        have h := HZ.out
        rw [hd, enc_step] at h
        exact h
      have HB := hidIt hb
      have HO := hidIt ho
      have gS := hidIt (rsize HNM.out i.op wr)
      have hz0 := sz_zero i.op
      clear HZ hd hb ho hi HIV
      go_wp2_with fail
      refine gS.out.mono ?_
      rintro e w1 ⟨rfl, b1⟩
      have HB1 := hidIt (HB.out.trans (b1.mono HB.out.size))
      have HO1 := hidIt (own_below HO.out b1)
      have HIA1 := hidIt (HIA.out.below b1)
      clear gS b1 HIA HO HB i0 i1 i2 i3
      obtain ⟨j0, j1, j2, j3⟩ := id HIA1.out
      by_cases hk0 : kd i.op = 0
      · rw [hz0.2 hk0]
        have hz := HZ1.out.2
        rw [if_pos hk0] at hz
        subst hz
        clear HZ1 hz0 HV
        go_wp2
        go_ret2
        exact ⟨HB1.out, _, rfl, World.ownsRow_nil _ _ _ _⟩
      · have hz := HZ1.out
        rw [if_neg hk0] at hz
        have hsz : sz i.op ≠ 0 := fun h => hk0 (hz0.1 h)
        have HSL := hidIt (sz_le i.op)
        have HL1 := hidIt (one_len i hk0)
        generalize sz i.op = s at *
        have s0 : ((s : Int) == 0) = false := by simpa using hsz
        clear HZ1 hz0
        by_cases hpl : i.pl = (out.length : Int)
        · rw [if_neg (by simpa using hpl)] at hz
          have HZ2 := hidIt hz
          clear hz
          have hpl' : (i.pl == (out.length : Int)) = true := by simpa using hpl
          have GO := hidIt (rone HNM.out i hk0 (by omega) (by omega) w1)
          have HF := hidIt (fitsB_iff i)
          generalize hfb : fitsB i = fb at *
          clear hpl
          go_wp2_with fail
          refine GO.out.mono ?_
          rintro e w2 ⟨b2, aor, nr, cr, rfl, hown⟩
          have HB2 := hidIt (HB1.out.trans (b2.mono HB1.out.size))
          have HO2 := hidIt (own_below HO1.out b2)
          clear GO b2 HIA1 j0 j1 j2 j3 HB1
          cases fb with
          | true =>
            have hr := hown rfl
            have hz := HZ2.out
            rw [if_neg (by decide)] at hz
            have HZ3 := hidIt hz
            have hab := one_bytes i hk0
            have VR := View.of_own hr hab
            have zs := HB2.out.size
            have h3 := HSL.out
            have h4 := HL1.out
            have hnr : nr = s := by
              obtain ⟨_, _, e⟩ := own_slice hr
              cases e
              exact h4
            subst hnr
            clear hz HZ2 hown HF hfb hr
            have O2 := HO2.out
            go_wp2_with (at_builtin; refine wpList_append_view rfl _ _ rfl w.heap.size _ _ _ _ (oneB i) rfl O2 rfl VR (by omega) zs ?_; intro v3 w3 ho3 st3; obtain ⟨ao3, cap3, rfl⟩ := own_slice ho3; have HS3 := hidIt st3; have HO3 := hidIt ho3; clear st3 ho3 VR O2)
            have O3 := HO3.out
            have hb3 := HB2.out.trans (HS3.out.below zs (fun k hk => (HO2.out.lt k hk).1))
            exact ⟨⟨k + 1, out ++ oneB i, by go_num, by omega, by rw [List.length_append, h4]; omega, ⟨HZ3.out.1.append hab, HZ3.out.2⟩, by rw [bcells_append, List.length_append]; rw [h4] at O3 ⊢; exact O3, hb3⟩, by simp [intOf]; omega⟩
          | false =>
            have hz := HZ2.out.2
            rw [if_pos rfl] at hz
            subst hz
            clear HZ2 hown HF hfb
            go_wp2
            go_ret2
            exact ⟨HB2.out, _, rfl, World.ownsRow_nil _ _ _ _⟩
        · rw [if_pos hpl] at hz
          obtain ⟨_, rfl⟩ := hz
          have hpl' : (i.pl == (out.length : Int)) = false := by simpa using hpl
          go_wp2
          go_ret2
          exact ⟨HB1.out, _, rfl, World.ownsRow_nil _ _ _ _⟩
    · have hlt' : ¬ (k : Int) < (l.length : Int) := by omega
      have hz := HZ.out.2
      rw [List.drop_eq_nil_of_le (by omega)] at hz
      unfold encL at hz
      have HB := hidIt hb
      have HO := hidIt ho
      clear HZ hb ho HV
      by_cases hbig : 1024 < out.length
      · have hb' : (1024 : Int) < (out.length : Int) := by omega
        rw [if_pos hbig] at hz
        subst hz
        go_wp2
        go_ret2
        exact ⟨HB.out, _, rfl, World.ownsRow_nil _ _ _ _⟩
      · have hb' : ¬ (1024 : Int) < (out.length : Int) := by omega
        rw [if_neg hbig] at hz
        subst hz
        go_wp2
        go_ret2
        exact ⟨HB.out, _, rfl, HO.out⟩
end Go.Proofs.Ytlnapfeglbdecaa
namespace Go.Proofs.Ytlnapfeglbdecaa
open Go.RowKit
theorem wp_table {P : Program} {w w' : World} {o : Oper} {a : Act} {K : Act → World → Prop} {Q : Exit → Act → World → Prop} (t n : Nat) (parts : Array (Nat × Operand)) (hop : o.op = .buildSlice t n parts)
    (ps : Array (Nat × Value)) (hp : (parts.map fun (i, x) => (i, a.eval x)) = ps) {v : Value} (hrun : (Instr.buildSlice t n ps).run P w = .ok v w') (h : K (a.put o.dst v) w') : Oper.wp P o a w K Q := by
  unfold Oper.wp
  simp only [execOp, hop, hp, Sem.run_bind, hrun, Result.andThen_ok, Sem.run_pure]
  exact h
set_option maxRecDepth 20000 in
set_option maxHeartbeats 8000000 in
theorem rname5 (op : Int) (w : World) : Calls Try.prog 32 #[.int .i64 op] w fun e w' => e = .returned (.string (nameO op)) ∧ Below w.heap.size w w' := by
  have HT : Hid ((w.alloc tab5).heap[w.heap.size]? = some tab5) := heap_alloc_new _ _
  have HB : Hid (Below w.heap.size w (w.alloc tab5)) := r5_alloc _ _
  have HL := hidIt names_len
  have HF := hidIt (fun (j : Nat) (p : Int × ByteArray) hp h hn => find_at (op := op) (j := j) (p := p) hp h hn)
  have HZ := hidIt (fun hn => find_no (op := op) hn)
  have HC := hidIt (fun (j : Nat) (p : Int × ByteArray) hp => tab_cell HT.out (j := j) (p := p) hp)
  generalize nameO op = res at *
  have HR := hidIt (run_tab5 w)
  generalize w.alloc tab5 = wt at *
  go_enter Try.func32, Try.ntmps32
  go_wp2
  refine wp_table 108 71 _ rfl parts5 (by first | (rw [List.map_toArray]; rfl) | kernel_rfl) HR.out ?_
  clear HR
  go_wp2
  go_loopw [4] (fun i wr => ∃ j : Nat, j ≤ 71 ∧ i = .int .i64 (j : Int) ∧ wr = wt ∧ Hid (∀ q ∈ names5.take j, q.1 ≠ op)) (fun i _ => 71 - (intOf i).toNat)
  case atStart => exact ⟨0, by omega, rfl, rfl, fun q hq => by simp at hq⟩
  case round =>
    obtain ⟨j, hj, rfl, rfl, HQ⟩ := hrel
    by_cases hlt : j < 71
    · have hlt' : (j : Int) < 71 := by omega
      obtain ⟨p, hp⟩ : ∃ p, names5[j]? = some p := ⟨_, List.getElem?_eq_getElem (by rw [HL.out]; exact hlt)⟩
      obtain ⟨c0, c1⟩ := HC.out j p hp
      by_cases he : p.1 = op
      · have HE := hidIt (HF.out j p hp he HQ.out)
        have he' : (p.1 == op) = true := by simpa using he
        clear HF HZ HC HQ hp he
        go_wp2
        go_ret
        rw [HE.out]
        exact ⟨rfl, HB.out⟩
      · have he' : (p.1 == op) = false := by simpa using he
        have HQ2 : Hid (∀ q ∈ names5.take (j + 1), q.1 ≠ op) := by
          intro q hq
          rw [List.take_add_one, hp] at hq
          rcases List.mem_append.1 hq with h | h
          · exact HQ.out q h
          · simp at h; subst h; exact he
        clear HF HZ HC HQ hp he
        go_wp2
        exact ⟨⟨j + 1, by omega, by go_num, (by first | rfl | trivial), HQ2.out⟩, by simp [intOf]; omega⟩
    · have hlt' : ¬ (j : Int) < 71 := by omega
      have hE := HZ.out (fun q hq => HQ.out q (by rw [List.take_of_length_le (by rw [HL.out]; omega)]; exact hq))
      have HE := hidIt hE
      clear HF HZ HC HQ hE
      go_wp2
      go_ret
      rw [HE.out]
      exact ⟨rfl, HB.out⟩
end Go.Proofs.Ytlnapfeglbdecaa
namespace Go.Proofs.Ytlnapfeglbdecaa.M
open Go.RowKit

def plc : List LN → Int → List Int → List Int
  | [], _, ps => ps
  | x :: r, p, ps => if 0 ≤ x.hr then plc r p (ps.set x.hr.toNat p) else plc r (p + (sz x.op : Nat)) ps
def placesZ (σ : SG) : List Int := plc σ.ls 0 (List.replicate σ.labels 0)
def cod (ps : List Int) : List LN → Int → List IN
  | [], _ => []
  | x :: r, p => if 0 ≤ x.hr then cod ps r p else ⟨p, x.op, if 0 ≤ x.lb then (ps[x.lb.toNat]?).getD 0 else x.a, x.b⟩ :: cod ps r (p + (sz x.op : Nat))
def codeZ (σ : SG) : List IN := cod (placesZ σ) σ.ls 0
def fra (ts : List Int) : List LN → Int → List (Int × Bool) → List (Int × Bool)
  | [], _, fs => fs
  | x :: r, p, fs => if 0 ≤ x.hr then fra ts r p (if (fs[fs.length - 1]?).map (·.1) = some p then fs else fs ++ [(p, isIn ts x.hr)]) else fra ts r (p + (sz x.op : Nat)) fs
def framesZ (σ : SG) : List (Int × Bool) := fra σ.ts σ.ls 0 []
theorem plc_cons (x : LN) (r : List LN) (p : Int) (ps : List Int) : plc (x :: r) p ps = if 0 ≤ x.hr then plc r p (ps.set x.hr.toNat p) else plc r (p + (sz x.op : Nat)) ps := rfl
theorem cod_cons (ps : List Int) (x : LN) (r : List LN) (p : Int) : cod ps (x :: r) p = if 0 ≤ x.hr then cod ps r p else ⟨p, x.op, if 0 ≤ x.lb then (ps[x.lb.toNat]?).getD 0 else x.a, x.b⟩ :: cod ps r (p + (sz x.op : Nat)) := rfl
theorem fra_cons (ts : List Int) (x : LN) (r : List LN) (p : Int) (fs : List (Int × Bool)) : fra ts (x :: r) p fs = if 0 ≤ x.hr then fra ts r p (if (fs[fs.length - 1]?).map (·.1) = some p then fs else fs ++ [(p, isIn ts x.hr)]) else fra ts r (p + (sz x.op : Nat)) fs := rfl
def FR1 (pl : Bool) (w : World) (y : FM) (z : Int × Bool) : Prop := y.at_ = z.1 ∧ (∃ g, y.lc = .slice (some ⟨g, 0, none⟩) (kinds pl).length (kinds pl).length ∧ w.heap[g]? = some (.cells (kinds pl).toArray 9)) ∧ if z.2 then ∃ g, y.st = .slice (some ⟨g, 0, none⟩) 1 1 ∧ w.heap[g]? = some sThr else y.st = .slice none 0 0
def FRs (pl : Bool) (w : World) (fs : List FM) (zs : List (Int × Bool)) : Prop := fs.length = zs.length ∧ ∀ (j : Nat) y z, fs[j]? = some y → zs[j]? = some z → FR1 pl w y z
theorem FR1.same {pl : Bool} {w w' : World} {y : FM} {z : Int × Bool} (h : FR1 pl w y z) (hs : Same 9 w w') : FR1 pl w' y z := by
  obtain ⟨z1, z2⟩ := z
  obtain ⟨h1, ⟨g, h2, h3⟩, h4⟩ := h
  refine ⟨h1, ⟨g, h2, hs g _ h3⟩, ?_⟩
  cases z2
  · simpa using h4
  · simp only [if_true] at h4 ⊢
    obtain ⟨g, h5, h6⟩ := h4
    exact ⟨g, h5, hs g _ h6⟩
theorem FRs.same {pl : Bool} {w w' : World} {fs : List FM} {zs : List (Int × Bool)} (h : FRs pl w fs zs) (hs : Same 9 w w') : FRs pl w' fs zs := ⟨h.1, fun j y z h1 h2 => (h.2 j y z h1 h2).same hs⟩
theorem FRs.nil {pl : Bool} {w : World} : FRs pl w [] [] := ⟨rfl, fun j y z h => by simp at h⟩
theorem FRs.last {pl : Bool} {w : World} {fs : List FM} {zs : List (Int × Bool)} (h : FRs pl w fs zs) : (zs[zs.length - 1]?).map (·.1) = (fs[fs.length - 1]?).map (·.at_) := by
  rw [← h.1]
  rcases e : fs[fs.length - 1]? with _ | y
  · have : fs.length ≤ fs.length - 1 := List.getElem?_eq_none_iff.1 e
    rw [List.getElem?_eq_none (by rw [← h.1]; exact this)]; rfl
  · have hl := (List.getElem?_eq_some_iff.1 e).1
    obtain ⟨z, hz⟩ : ∃ z, zs[fs.length - 1]? = some z := ⟨zs[fs.length - 1]'(by rw [← h.1]; exact hl), List.getElem?_eq_getElem _⟩
    rw [hz]
    simp [(h.2 _ _ _ e hz).1]
theorem FRs.add {pl : Bool} {w : World} {fs : List FM} {zs : List (Int × Bool)} {y : FM} {z : Int × Bool} (h : FRs pl w fs zs) (h1 : FR1 pl w y z) : FRs pl w (fs ++ [y]) (zs ++ [z]) := by
  refine ⟨by simp [h.1], fun j a b ha hb => ?_⟩
  by_cases hj : j < fs.length
  · rw [List.getElem?_append_left hj] at ha
    rw [List.getElem?_append_left (by rw [← h.1]; exact hj)] at hb
    exact h.2 j a b ha hb
  · rw [List.getElem?_append_right (by omega)] at ha
    rw [List.getElem?_append_right (by rw [← h.1]; omega), ← h.1] at hb
    rcases e : j - fs.length with _ | m
    · rw [e] at ha hb
      simp at ha hb
      subst ha; subst hb; exact h1
    · rw [e] at ha; simp at ha
structure Refs (σ : SG) : Prop where
  ls : ∀ x ∈ σ.ls, x.lb < σ.labels ∧ x.hr < σ.labels
  hs : ∀ x ∈ σ.hs, (0 ≤ x.f ∧ x.f < σ.labels) ∧ (0 ≤ x.t ∧ x.t < σ.labels) ∧ 0 ≤ x.a ∧ x.a < σ.labels
theorem drop_at' {α : Type} {l : List α} {k : Nat} {x : α} (h : l[k]? = some x) : l.drop k = x :: l.drop (k + 1) := by
  obtain ⟨hk, e⟩ := List.getElem?_eq_some_iff.1 h
  subst e
  exact List.drop_eq_getElem_cons hk
theorem lcells_get : ∀ (l : List LN) (j : Nat) (x : LN) (i : Nat), l[j]? = some x → i < 6 → (lcells l)[j * 6 + i]? = (lrow x)[i]?
  | [], _, _, _, h, _ => by simp at h
  | y :: l, 0, x, i, h, hi => by simp at h; subst h; unfold lcells; rw [List.flatMap_cons, Nat.zero_mul, Nat.zero_add, List.getElem?_append_left (by simp [lrow]; omega)]
  | y :: l, j + 1, x, i, h, hi => by
    have := lcells_get l j x i (by simpa using h) hi
    unfold lcells at *
    rw [List.flatMap_cons, List.getElem?_append_right (by simp [lrow]; omega), show (j + 1) * 6 + i - (lrow y).length = j * 6 + i by simp [lrow]; omega]
    exact this
theorem own_line {w : World} {B : Nat} {v : Value} {l : List LN} (h : w.ownsRow B 94 6 v l.length (lcells l)) {j : Nat} {x : LN} (hj : l[j]? = some x) :
    ∃ g cap, v = .slice (some ⟨g, 0, none⟩) l.length cap ∧ g < w.heap.size ∧ w.cell? ⟨g, j * 6, none⟩ = some (.int .i64 x.pl) ∧ w.cell? ⟨g, j * 6 + 1, none⟩ = some (.int .i64 x.op) ∧ w.cell? ⟨g, j * 6 + 2, none⟩ = some (.int .i64 x.a) ∧ w.cell? ⟨g, j * 6 + 3, none⟩ = some (.int .i64 x.b) ∧ w.cell? ⟨g, j * 6 + 4, none⟩ = some (.int .i64 x.lb) ∧ w.cell? ⟨g, j * 6 + 5, none⟩ = some (.int .i64 x.hr) := by
  have hlt := (List.getElem?_eq_some_iff.1 hj).1
  rcases h.2 with ⟨rfl, h0⟩ | ⟨g, cap, cur, rfl, _, hg, h1, h2, h3, h4⟩
  · rw [h0] at hlt; simp at hlt
  · have e : ∀ i, i < 6 → cur[j * 6 + i]? = (lrow x)[i]? := by
      intro i hi
      rw [← lcells_get l j x i hj hi, ← h4, List.getElem?_take, if_pos (by omega), Array.getElem?_toList]
    exact ⟨g, cap, rfl, (Array.getElem?_eq_some_iff.1 hg).1, cell_row hg _ (e 0 (by decide)), cell_row hg _ (e 1 (by decide)), cell_row hg _ (e 2 (by decide)), cell_row hg _ (e 3 (by decide)), cell_row hg _ (e 4 (by decide)), cell_row hg _ (e 5 (by decide))⟩
end Go.Proofs.Ytlnapfeglbdecaa.M
namespace Go.Proofs.Ytlnapfeglbdecaa
open Go.RowKit
theorem dec_step (b : List Int) (f p : Nat) (acc : List IN) {op : Int} {t : List Int} (hd : b.drop p = op :: t) :
    decL5 b (f + 1) p acc = if kd op = 0 then ([], 15, (p : Int)) else if b.length < p + sz op then ([], 10, (p : Int)) else decL5 b f (p + sz op) (acc ++ [inst p op t]) := by
  rw [decL5, hd]
theorem dec_end (b : List Int) (f p : Nat) (acc : List IN) (hp : b.length ≤ p) : decL5 b f p acc = (acc, 0, 0) := by
  cases f with
  | zero => rfl
  | succ f => rw [decL5, List.drop_eq_nil_of_le hp]
theorem IView.laid1 (w : World) (i : IN) : IView (w.alloc (.cells #[.int .i64 i.pl, .int .i64 i.op, .int .i64 i.a, .int .i64 i.b] 52)) (.slice (some ⟨w.heap.size, 0, none⟩) 1 1) [i] := by
  refine ⟨_, _, rfl, Nat.le_refl _, by unfold maxLen; omega, .inr ⟨_, _, rfl, fun j x hj => ?_⟩⟩
  match j, hj with
  | 0, hj => simp at hj; subst hj; exact box_at w i
  | j + 1, hj => simp at hj
theorem View.part {w : World} {g off c p n : Nat} {l : List Int} (h : View w (.slice (some ⟨g, off, none⟩) l.length c) l) (hp : p + n ≤ l.length) : View w (.slice (some ⟨g, off + p, none⟩) n (c - p)) ((l.drop p).take n) := by
  obtain ⟨ao', cap, e, hc, hm, hy, hl⟩ := h
  cases e
  refine ⟨_, c - p, by rw [List.length_take, List.length_drop, Nat.min_eq_left (by omega)], by rw [List.length_take, List.length_drop]; omega, by omega, fun x hx => hy x (List.mem_of_mem_drop (List.mem_of_mem_take hx)), ?_⟩
  rcases hl with rfl | ⟨g', off', e, hl⟩
  · exact .inl (by simp)
  · cases e
    refine .inr ⟨g, off + p, rfl, fun j x hj => ?_⟩
    rw [List.getElem?_take] at hj
    split at hj
    · rw [List.getElem?_drop] at hj
      rw [Nat.add_assoc]
      exact hl (p + j) x hj
    · cases hj
end Go.Proofs.Ytlnapfeglbdecaa
