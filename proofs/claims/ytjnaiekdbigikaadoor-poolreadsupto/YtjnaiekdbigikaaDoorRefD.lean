/- The document's own Decode. -/
import Derived.Test.YtjnaiekdbigikaaDoorRefU
namespace Go.Proofs.YtjnaiekdbigikaaDoor
open Go.RowKit

/-- If the bytes are some runes' bytes: what has been read so far are the first of these. -/
def Cons (l rs : List Int) (h : Int) (k : Nat) : Prop := ∀ rs0, (∀ r ∈ rs0, RuneOk r) → l = mAll rs0 →
  (h = -1 ∧ ∃ rest, rs0 = rs ++ rest ∧ l.drop k = mAll rest) ∨
  (∃ r rest, rs0 = rs ++ r :: rest ∧ 65536 ≤ r ∧ h = 55296 + (r - 65536) / 1024 ∧ l.drop k = mcode (56320 + (r - 65536) % 1024) ++ mAll rest)

theorem cons_unit {l rs rs0 : List Int} {h : Int} {k : Nat} (hc : Cons l rs h k) (hok : ∀ r ∈ rs0, RuneOk r) (hl : l = mAll rs0) (hk : k < l.length) :
    (h = -1 ∧ ∃ r rest, rs0 = rs ++ r :: rest ∧ RuneOk r ∧ r < 65536 ∧ unitZ (l.drop k) = (r, (mcode r).length) ∧ l.drop (k + (mcode r).length) = mAll rest) ∨
    (h = -1 ∧ ∃ r rest, rs0 = rs ++ r :: rest ∧ 65536 ≤ r ∧ r ≤ 1114111 ∧ unitZ (l.drop k) = (55296 + (r - 65536) / 1024, 3) ∧ l.drop (k + 3) = mcode (56320 + (r - 65536) % 1024) ++ mAll rest) ∨
    (∃ r rest, rs0 = rs ++ r :: rest ∧ 65536 ≤ r ∧ r ≤ 1114111 ∧ h = 55296 + (r - 65536) / 1024 ∧ unitZ (l.drop k) = (56320 + (r - 65536) % 1024, 3) ∧ l.drop (k + 3) = mAll rest) := by
  have hne : l.drop k ≠ [] := by intro e; have := congrArg List.length e; rw [List.length_drop] at this; simp at this; omega
  rcases hc rs0 hok hl with ⟨h1, rest, e1, e2⟩ | ⟨r, rest, e1, e2, e3, e4⟩
  · cases rest with
    | nil => rw [e2] at hne; exact absurd rfl hne
    | cons r rest =>
      have hr : RuneOk r := hok r (by rw [e1]; simp)
      rw [mAll_cons] at e2
      by_cases h6 : 65536 ≤ r
      · right; left
        have hr2 : r ≤ 1114111 := by unfold RuneOk at hr; omega
        have em : mcode r = mcode (55296 + (r - 65536) / 1024) ++ mcode (56320 + (r - 65536) % 1024) := by
          rcases mcode6 h6 with e | e
          · exact e
          · omega
        have hl3 : (mcode (55296 + (r - 65536) / 1024)).length = 3 := mcode_len3 (by omega) (by omega)
        rw [em, List.append_assoc] at e2
        refine ⟨h1, r, rest, e1, h6, hr2, ?_, ?_⟩
        · rw [e2, unit_mcode _ _ (by omega) (by omega), hl3]
        · rw [← List.drop_drop, e2, List.drop_append, hl3, List.drop_eq_nil_of_le (by omega)]; rfl
      · left
        refine ⟨h1, r, rest, e1, hr, by omega, ?_, ?_⟩
        · rw [e2, unit_mcode _ _ (by unfold RuneOk at hr; omega) (by omega)]
        · rw [← List.drop_drop, e2]; simp
  · right; right
    have hr : RuneOk r := hok r (by rw [e1]; simp)
    have hr2 : r ≤ 1114111 := by unfold RuneOk at hr; omega
    have hl3 : (mcode (56320 + (r - 65536) % 1024)).length = 3 := mcode_len3 (by omega) (by omega)
    refine ⟨r, rest, e1, e2, hr2, e3, ?_, ?_⟩
    · rw [e4, unit_mcode _ _ (by omega) (by omega), hl3]
    · rw [← List.drop_drop, e4, List.drop_append, hl3, List.drop_eq_nil_of_le (by omega)]; rfl

theorem none_of {l : List Int} (hb : AllBytes l) (h : ∀ rs0, (∀ r ∈ rs0, RuneOk r) → l = mAll rs0 → False) : decL l = none := by
  cases hd : decL l with
  | none => rfl
  | some xs =>
    obtain ⟨rs, h1, h2, _⟩ := decL_inv l xs hb hd
    exact (h rs h1 h2).elim

theorem nums_inj {a b : List Int} (ha : AllBytes a) (hb : AllBytes b) (h : strOfNums a = strOfNums b) : a = b := by
  have h1 : a.map (fun n => UInt8.ofNat n.toNat) = b.map (fun n => UInt8.ofNat n.toNat) := by
    have := congrArg (fun s : ByteArray => s.data.toList) h
    simpa [strOfNums] using this
  have key : ∀ x : Int, 0 ≤ x ∧ x ≤ 255 → ((UInt8.ofNat x.toNat).toNat : Int) = x := by
    intro x hx
    have e : (UInt8.ofNat x.toNat).toNat = x.toNat := by simp; omega
    rw [e]; omega
  have back : ∀ l : List Int, AllBytes l → (l.map (fun n => UInt8.ofNat n.toNat)).map (fun c => (c.toNat : Int)) = l := by
    intro l hl
    rw [List.map_map]
    conv => rhs; rw [← List.map_id l]
    exact List.map_congr_left fun x hx => key x (hl x hx)
  rw [← back a ha, ← back b hb, h1]

theorem uAll_snoc (rs : List Int) (r : Int) : uAll (rs ++ [r]) = uAll rs ++ Lib.encodeRuneZ r := by simp [uAll]

set_option maxRecDepth 8000 in
set_option maxHeartbeats 4000000 in
theorem refdec_any (v : Value) (l : List Int) (w : World) (hv : View w v l) (hlen : l.length ≤ 1073741824) :
    Calls Tryd.prog 71 #[v] w fun e w' => Below w.heap.size w w' ∧
      ((∃ xs, decL l = some xs ∧ e = .returned (.tuple #[.string (strOfNums xs), .int .i64 0])) ∨ (decL l = none ∧ e = .returned (.tuple #[.string ⟨#[]⟩, .int .i64 12]))) := by
  have hby : AllBytes l := by obtain ⟨_, _, _, _, _, h, _⟩ := hv; exact h
  obtain ⟨ao, cap, rfl, hc, hm, -, -⟩ := id hv
  go_enter Tryd.func71, Tryd.ntmps71
  go_wp2
  go_loop [4, 5, 6] (fun s hi at_ => ∃ (rs : List Int) (h : Int) (k : Nat), s = .string (strOfNums (uAll rs)) ∧ hi = .int .i64 h ∧ at_ = .int .i64 (k : Int) ∧ (∀ r ∈ rs, RuneOk r) ∧ (h = -1 ∨ (55296 ≤ h ∧ h < 56320)) ∧ k ≤ l.length ∧ Cons l rs h k ∧ rs.length ≤ k) (fun _ _ i => l.length - (intOf i).toNat)
  case atStart =>
    refine ⟨[], -1, 0, rfl, rfl, rfl, by simp, .inl rfl, Nat.zero_le _, ?_, by simp⟩
    intro rs0 _ hl
    exact .inl ⟨rfl, rs0, rfl, by simpa using hl⟩
  case round =>
    obtain ⟨rs, h, k, rfl, rfl, rfl, hrs, hh, hk, hcons, hrk⟩ := hrel
    have hul := uAll_len rs
    by_cases hlt : k < l.length
    · have HU := hidIt (unit_any _ l k w hv hlt (by omega))
      have hur := unit_range (l.drop k) (fun x hx => hby x (List.mem_of_mem_drop hx))
      rw [List.length_drop] at hur
      have HC := hidIt (fun rs0 hok hl => cons_unit (rs0 := rs0) hcons hok hl hlt)
      generalize unitZ (l.drop k) = U at *
      obtain ⟨n, sz⟩ := U
      simp only at hur HU HC
      obtain ⟨hu1, hu2, hu3, hu4⟩ := hur
      clear hcons
      have hlt' : (k : Int) < (l.length : Int) := by omega
      have hsz : (strOfNums (uAll rs)).size ≤ 4294967296 := by rw [nums_size]; omega
      by_cases h0 : sz = 0
      · subst h0
        go_wp2_with fail
        refine HU.out.mono ?_
        rintro e w' ⟨rfl, hww⟩; cases hww
        go_wp2
        go_ret2
        refine ⟨Below.refl _ _, .inr ⟨none_of hby fun rs0 hok hl => ?_, rfl⟩⟩
        rcases HC.out rs0 hok hl with ⟨_, r, rest, _, _, _, e, _⟩ | ⟨_, r, rest, _, _, _, e, _⟩ | ⟨r, rest, _, _, _, _, e, _⟩
        · have := mcode_pos r; simp at e; omega
        · simp at e
        · simp at e
      · have h0b : ((sz : Int) == 0) = false := by simp; omega
        have hes := fun i => encode_size_le i
        have HS : Hid (∀ r, RuneOk r → strOfNums (uAll rs) ++ Utf8.encode r = strOfNums (uAll (rs ++ [r]))) := by
          intro r hr
          rw [encode_nums r hr, ← nums_append, uAll_snoc]
        have HRS : Hid (∀ r, RuneOk r → ∀ x ∈ rs ++ [r], RuneOk x) := by
          intro r hr x hx
          rcases List.mem_append.1 hx with h' | h'
          · exact hrs x h'
          · simp at h'; rw [h']; exact hr
        by_cases hlow : 56320 ≤ n ∧ n < 57344
        · obtain ⟨hl1, hl2⟩ := hlow
          by_cases hhi : 0 ≤ h
          · have hh2 : 55296 ≤ h ∧ h < 56320 := by omega
            obtain ⟨hh3, hh4⟩ := hh2
            have hes1 := hes (65536 + (h - 55296) * 1024 + (n - 56320))
            have hR : Hid (RuneOk (65536 + (h - 55296) * 1024 + (n - 56320))) := by unfold Hid RuneOk; omega
            clear hes hh
            go_wp2_with fail
            refine HU.out.mono ?_
            rintro e w' ⟨rfl, hww⟩; cases hww
            go_wp2
            refine ⟨⟨rs ++ [65536 + (h - 55296) * 1024 + (n - 56320)], -1, k + sz, congrArg Value.string (HS.out _ hR.out), rfl, by go_num, HRS.out _ hR.out, .inl rfl, by omega, ?_, by simp; omega⟩, by simp [intOf]; omega⟩
            intro rs0 hok hl
            rcases HC.out rs0 hok hl with ⟨e0, r, rest, _, _, _, e, _⟩ | ⟨e0, r, rest, _, _, _, e, _⟩ | ⟨r, rest, e1, e2, e3, e4, e5, e6⟩
            · omega
            · omega
            · simp only [Prod.mk.injEq] at e5
              obtain ⟨e5, rfl⟩ := e5
              have er : 65536 + (h - 55296) * 1024 + (n - 56320) = r := by omega
              rw [er]
              exact .inl ⟨rfl, rest, by rw [e1]; simp, e6⟩
          · have hhi' : h = -1 := by omega
            subst hhi'
            clear hes hh
            go_wp2_with fail
            refine HU.out.mono ?_
            rintro e w' ⟨rfl, hww⟩; cases hww
            go_wp2
            go_ret2
            refine ⟨Below.refl _ _, .inr ⟨none_of hby fun rs0 hok hl => ?_, rfl⟩⟩
            rcases HC.out rs0 hok hl with ⟨_, r, rest, _, hr, _, e, _⟩ | ⟨_, r, rest, _, _, _, e, _⟩ | ⟨r, rest, _, _, _, e4, e, _⟩
            · simp only [Prod.mk.injEq] at e; unfold RuneOk at hr; omega
            · simp only [Prod.mk.injEq] at e; omega
            · omega
        · by_cases hhi : 0 ≤ h
          · have hh2 : 55296 ≤ h ∧ h < 56320 := by omega
            obtain ⟨hh3, hh4⟩ := hh2
            have hl1 : n < 56320 ∨ 57344 ≤ n := by omega
            clear hes hh hlow
            have FIN : Hid (decL l = none) := none_of hby fun rs0 hok hl => by
              rcases HC.out rs0 hok hl with ⟨e0, r, rest, _, hr, _, e, _⟩ | ⟨e0, r, rest, _, _, _, e, _⟩ | ⟨r, rest, _, _, _, e4, e, _⟩
              · omega
              · omega
              · simp only [Prod.mk.injEq] at e; omega
            rcases hl1 with hl1 | hl1
            · go_wp2_with fail
              refine HU.out.mono ?_
              rintro e w' ⟨rfl, hww⟩; cases hww
              go_wp2
              go_ret2
              exact ⟨Below.refl _ _, .inr ⟨FIN.out, rfl⟩⟩
            · have hl2 : 56320 ≤ n := by omega
              have hl3 : ¬ n < 57344 := by omega
              go_wp2_with fail
              refine HU.out.mono ?_
              rintro e w' ⟨rfl, hww⟩; cases hww
              go_wp2
              go_ret2
              exact ⟨Below.refl _ _, .inr ⟨FIN.out, rfl⟩⟩
          · have hhi' : h = -1 := by omega
            subst hhi'
            clear hh
            by_cases hsur : 55296 ≤ n ∧ n < 56320
            · obtain ⟨hs1, hs2⟩ := hsur
              clear hes hlow
              go_wp2_with fail
              refine HU.out.mono ?_
              rintro e w' ⟨rfl, hww⟩; cases hww
              go_wp2
              refine ⟨⟨rs, n, k + sz, rfl, rfl, by go_num, hrs, .inr ⟨hs1, hs2⟩, by omega, ?_, by omega⟩, by simp [intOf]; omega⟩
              intro rs0 hok hl
              rcases HC.out rs0 hok hl with ⟨e0, r, rest, _, hr, _, e, _⟩ | ⟨e0, r, rest, e1, e2, e3, e5, e6⟩ | ⟨r, rest, _, _, _, e4, e, _⟩
              · simp only [Prod.mk.injEq] at e; unfold RuneOk at hr; omega
              · simp only [Prod.mk.injEq] at e5
                obtain ⟨e5, rfl⟩ := e5
                exact .inr ⟨r, rest, e1, e2, e5, e6⟩
              · omega
            · have hR : Hid (RuneOk n) := by unfold Hid RuneOk; omega
              have hes1 := hes n
              have hl1 : n < 55296 ∨ 57344 ≤ n := by omega
              have FIN : Hid (Cons l (rs ++ [n]) (-1) (k + sz)) := by
                intro rs0 hok hl
                rcases HC.out rs0 hok hl with ⟨e0, r, rest, e1, hr, e2, e, e6⟩ | ⟨e0, r, rest, e1, e2, e3, e5, e6⟩ | ⟨r, rest, _, _, _, e4, e, _⟩
                · simp only [Prod.mk.injEq] at e
                  obtain ⟨rfl, rfl⟩ := e
                  exact .inl ⟨rfl, rest, by rw [e1]; simp, e6⟩
                · simp only [Prod.mk.injEq] at e5; omega
                · omega
              clear hes hlow hsur
              rcases hl1 with hl1 | hl1
              · have hl4 : n < 56320 := by omega
                go_wp2_with fail
                refine HU.out.mono ?_
                rintro e w' ⟨rfl, hww⟩; cases hww
                go_wp2
                exact ⟨⟨rs ++ [n], -1, k + sz, congrArg Value.string (HS.out _ hR.out), rfl, by go_num, HRS.out _ hR.out, .inl rfl, by omega, FIN.out, by simp; omega⟩, by simp [intOf]; omega⟩
              · have hl4 : 56320 ≤ n := by omega
                have hl5 : ¬ n < 57344 := by omega
                have hl6 : ¬ n < 56320 := by omega
                have hl7 : 55296 ≤ n := by omega
                go_wp2_with fail
                refine HU.out.mono ?_
                rintro e w' ⟨rfl, hww⟩; cases hww
                go_wp2
                exact ⟨⟨rs ++ [n], -1, k + sz, congrArg Value.string (HS.out _ hR.out), rfl, by go_num, HRS.out _ hR.out, .inl rfl, by omega, FIN.out, by simp; omega⟩, by simp [intOf]; omega⟩
    · have hke : k = l.length := by omega
      subst hke
      have hlt' : ¬ ((l.length : Int) < (l.length : Int)) := by omega
      have hsz : (strOfNums (uAll rs)).size ≤ 4294967296 := by rw [nums_size]; omega
      have HE := hidIt (refenc_ok (strOfNums (uAll rs)) w hsz (valid_uAll rs hrs))
      rw [encZ_uAll rs hrs] at HE
      have hmb := mAll_bytes rs hrs
      have HN : Hid (l ≠ mAll rs ∨ 0 ≤ h → decL l = none) := by
        intro hno
        refine none_of hby fun rs0 hok hl => ?_
        rcases hcons rs0 hok hl with ⟨e0, rest, e1, e2⟩ | ⟨r, rest, e1, e2, e3, e4⟩
        · rcases hno with hno | hno
          · have hr : rest = [] := by
              cases rest with
              | nil => rfl
              | cons r rest =>
                exfalso
                have hp := mcode_pos r
                have := congrArg List.length e2
                rw [List.drop_eq_nil_of_le (Nat.le_refl _), mAll_cons, List.length_append] at this
                rw [List.length_nil] at this; omega
            rw [hr, List.append_nil] at e1
            exact hno (by rw [← e1]; exact hl)
          · omega
        · have hp := mcode_pos (56320 + (r - 65536) % 1024)
          have := congrArg List.length e4
          rw [List.drop_eq_nil_of_le (Nat.le_refl _), List.length_append] at this
          rw [List.length_nil] at this; omega
      have HY : Hid (l = mAll rs → decL l = some (uAll rs)) := by
        intro e; rw [e]; exact decL_mAll rs hrs
      clear hcons hul hsz hlt
      have hsl := Lib.toList_data
      by_cases hhi : 0 ≤ h
      · have FIN := hidIt (HN.out (.inr hhi))
        clear HN HY hh hsl
        generalize strOfNums (uAll rs) = S at *
        generalize mAll rs = M at *
        go_wp2_with fail
        refine HE.out.mono ?_
        rintro e w1 ⟨b1, v1, rfl, o1⟩
        go_wp2
        go_ret2
        exact ⟨b1, .inr ⟨FIN.out, rfl⟩⟩
      · have hhi' : h = -1 := by omega
        subst hhi'
        clear hh hhi
        by_cases hM : l = mAll rs
        · have FIN := hidIt (HY.out hM)
          clear HN HY hsl
          rw [← hM] at HE hmb
          clear hM
          generalize uAll rs = X at *
          generalize hS : strOfNums X = S at *
          have HSS := hidIt hS
          clear hS
          go_wp2_with fail
          refine HE.out.mono ?_
          rintro e w1 ⟨b1, v1, rfl, o1⟩
          have cs := run_string (View.of_own o1 hmb)
          have cv := run_string (hv.below b1)
          clear o1
          go_wp2
          go_ret2
          refine ⟨b1, .inl ⟨X, FIN.out, ?_⟩⟩
          rw [HSS.out]; rfl
        · have FIN := hidIt (HN.out (.inl hM))
          have hne : ((strOfNums (mAll rs)).toList == (strOfNums l).toList) = false := by
            have : (strOfNums (mAll rs)).toList ≠ (strOfNums l).toList := by
              intro e
              rw [Lib.toList_data, Lib.toList_data] at e
              exact hM (nums_inj hby hmb (ByteArray.ext (Array.ext' e.symm)))
            simpa using this
          have hne2 : ((strOfNums (mAll rs)).toList != (strOfNums l).toList) = true := by simpa using hne
          clear HN HY hsl hM
          generalize strOfNums (uAll rs) = S at *
          generalize mAll rs = M at *
          go_wp2_with fail
          refine HE.out.mono ?_
          rintro e w1 ⟨b1, v1, rfl, o1⟩
          have cs := run_string (View.of_own o1 hmb)
          have cv := run_string (hv.below b1)
          clear o1
          go_wp2
          go_ret2
          exact ⟨b1, .inr ⟨FIN.out, rfl⟩⟩
end Go.Proofs.YtjnaiekdbigikaaDoor
