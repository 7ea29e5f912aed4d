/- Maps with a number and a text for keys. -/
import Derived.Test.YtacmooknfbjpeaaGA
import Derived.Laws.StructEq
import Derived.ChangeKeysEq
namespace Go.Proofs.Ytacmooknfbjpeaa.J
open Go.RowKit Go.MapKept Go.ChangeMaps
set_option linter.unusedVariables false

def dkey (d : Nat × ByteArray) : Value := .agg #[.int .i64 (d.1 : Int), .string d.2]
theorem dstruct : Try.prog.underlying 108 = some (.struct (Try.prog.fieldsOf 108)) := by kernel_rfl
theorem dfields : (Try.prog.fieldsOf 108).toList.map (fun f => (f.type, f.offset, decide (f.name ≠ "_"))) = [(3, 0, true), (9, 1, true)] := by kernel_rfl
theorem dheld : Try.prog.stoodInHeld 108 = false := by kernel_rfl
theorem two_fields {fs : List Field} (h : fs.map (fun f => (f.type, f.offset, decide (f.name ≠ "_"))) = [(3, 0, true), (9, 1, true)]) : ∃ f g : Field, fs = [f, g] ∧ f.type = 3 ∧ f.offset = 0 ∧ f.name ≠ "_" ∧ g.type = 9 ∧ g.offset = 1 ∧ g.name ≠ "_" := by
  cases fs with
  | nil => simp at h
  | cons f fs =>
    cases fs with
    | nil => simp at h
    | cons g fs =>
      cases fs with
      | nil =>
        simp only [List.map_cons, List.map_nil, List.cons.injEq, Prod.mk.injEq, decide_eq_true_eq, and_true] at h
        obtain ⟨⟨f1, f2, f3⟩, g1, g2, g3⟩ := h
        exact ⟨f, g, rfl, f1, f2, f3, g1, g2, g3⟩
      | cons x fs => simp at h
theorem part_i (x : Int) (s : ByteArray) (w : World) : (part 3 #[.int .i64 x, .string s] 0).run Try.prog w = .ok (.int .i64 x) w := run_part_plain (w := w) (by kernel_rfl) rfl
theorem part_s (x : Int) (s : ByteArray) (w : World) : (part 9 #[.int .i64 x, .string s] 1).run Try.prog w = .ok (.string s) w := run_part_plain (w := w) (by kernel_rfl) rfl
theorem ba_eq (a b : ByteArray) : (a.toList == b.toList) = decide (a = b) := by
  rw [Bool.eq_iff_iff]
  simp only [beq_iff_eq, decide_eq_true_eq, ByteArray.toList_eq]
  exact ⟨fun h => by cases a; cases b; exact congrArg ByteArray.mk (Array.toList_inj.1 h), fun h => by rw [h]⟩
theorem eq_d (a b : Nat × ByteArray) (w : World) : (Op.equal 108 (dkey a) (dkey b)).run Try.prog w = .ok (decide (a = b)) w := by
  have hf := dfields
  show (Op.equalIn (9999 + 1) 108 (.agg #[.int .i64 (a.1 : Int), .string a.2]) (.agg #[.int .i64 (b.1 : Int), .string b.2])).run Try.prog w = _
  rw [run_equalIn_agg w 9999 _ _ _ dstruct dheld]
  generalize (Try.prog.fieldsOf 108).toList = fs at *
  obtain ⟨f, g, rfl, f1, f2, f3, g1, g2, g3⟩ := two_fields hf
  obtain ⟨a1, a2⟩ := a
  obtain ⟨b1, b2⟩ := b
  have e1 := run_equalIn_int w 9998 3 .i64 .i64 (a1 : Int) (b1 : Int) Try.underlying3
  have e2 := run_equalIn_string w 9998 9 a2 b2 Try.underlying9
  rw [ba_eq] at e2
  simp only [Op.eqFields, Sem.run_bind, Sem.run_ite, if_pos f3, if_pos g3, f1, f2, g1, g2, part_i, part_s, Result.andThen_ok, e1, e2, Sem.run_pure]
  by_cases h1 : a1 = b1
  · subst h1
    by_cases h2 : a2 = b2 <;> simp [h2]
  · have h1' : ((a1 : Int) == (b1 : Int)) = false := by simp; omega
    simp [h1, h1']
theorem check_d (e : Bool) (n : Nat) (d : Nat × ByteArray) (w : World) : (Instr.checkKey e (n + 2) 108 (dkey d)).run Try.prog w = .ok () w := by
  have hf := dfields
  simp only [Instr.checkKey, run_underlying dstruct, dkey, Sem.run_bind, Result.andThen_ok]
  rw [← Array.forIn_toList]
  generalize (Try.prog.fieldsOf 108).toList = fs at *
  obtain ⟨f, g, rfl, f1, f2, f3, g1, g2, g3⟩ := two_fields hf
  simp [f1, f2, f3, g1, g2, g3, Result.andThen, part_i, part_s]
def dmem (d : Nat × ByteArray) (l : List (Nat × ByteArray)) : Bool := l.any fun p => decide (d = p)
theorem dmem_iff (d : Nat × ByteArray) (l : List (Nat × ByteArray)) : dmem d l = true ↔ d ∈ l := by simp [dmem]
theorem dmem_no {d : Nat × ByteArray} {l : List (Nat × ByteArray)} (h : dmem d l = false) : d ∉ l := fun e => by rw [(dmem_iff d l).2 e] at h; cases h
def DMap (w : World) (b : Nat) (l : List (Nat × ByteArray)) : Prop :=
  ∃ es clock, w.heap[b]? = some (.map es clock) ∧ es.toList.map (fun e => e.key) = l.map dkey ∧ ∀ e ∈ es.toList, ∃ v : Int, e.val = .int .i64 v
theorem findD (w : World) (d : Nat × ByteArray) : ∀ (es : List MapEntry) (l : List (Nat × ByteArray)) (i : Nat), es.map (fun e => e.key) = l.map dkey → (∀ e ∈ es, ∃ v : Int, e.val = .int .i64 v) →
    (d ∉ l → (Instr.findAsking 108 (dkey d) es i).run Try.prog w = .ok none w) ∧ (d ∈ l → ∃ j v, (Instr.findAsking 108 (dkey d) es i).run Try.prog w = .ok (some (j, .int .i64 v)) w)
  | [], [], i, _, _ => ⟨fun _ => rfl, fun h => by simp at h⟩
  | [], p :: l, i, h, _ => by simp at h
  | e :: es, [], i, h, _ => by simp at h
  | e :: es, p :: l, i, h, hv => by
    simp only [List.map_cons, List.cons.injEq] at h
    obtain ⟨h1, h3⟩ := h
    obtain ⟨a, b⟩ := findD w d es l (i + 1) h3 fun x hx => hv x (List.mem_cons_of_mem _ hx)
    obtain ⟨v, hv0⟩ := hv e (List.mem_cons_self ..)
    unfold Instr.findAsking
    simp only [Sem.run_bind, h1, eq_d, Result.andThen_ok, Sem.run_ite]
    by_cases hs : d = p
    · refine ⟨fun h => absurd (hs ▸ List.mem_cons_self ..) h, fun _ => ⟨i, v, ?_⟩⟩
      rw [if_pos (by simp [hs]), Sem.run_pure, hv0]
    · rw [if_neg (by simp [hs])]
      exact ⟨fun h => a fun e => h (List.mem_cons_of_mem _ e), fun h => b ((List.mem_cons.1 h).resolve_left hs)⟩
theorem findKD (w : World) (d : Nat × ByteArray) (es : List MapEntry) (l : List (Nat × ByteArray)) (h : es.map (fun e => e.key) = l.map dkey) (hv : ∀ e ∈ es, ∃ v : Int, e.val = .int .i64 v) :
    (d ∉ l → (Instr.findKey 108 (dkey d) es).run Try.prog w = .ok none w) ∧ (d ∈ l → ∃ j v, (Instr.findKey 108 (dkey d) es).run Try.prog w = .ok (some (j, .int .i64 v)) w) := by
  obtain ⟨a, b⟩ := findD w d es l 0 h hv
  unfold Instr.findKey
  simp only [Sem.run_bind, run_underlying dstruct, Result.andThen_ok]
  cases es with
  | nil =>
    cases l with
    | nil => exact ⟨fun _ => rfl, fun h => by simp at h⟩
    | cons => simp at h
  | cons e es =>
    simp only [Instr.findNow, Instr.sameNow]
    exact ⟨a, b⟩
theorem DMap.look2 {w : World} {b : Nat} {l : List (Nat × ByteArray)} (h : DMap w b l) (d : Nat × ByteArray) : ∃ v : Int, (Instr.lookup 104 (.map (some b)) (dkey d) true).run Try.prog w = .ok (.tuple #[.int .i64 v, .bool (dmem d l)]) w := by
  obtain ⟨es, clock, hb, he, hv⟩ := h
  obtain ⟨f1, f2⟩ := findKD w d es.toList l he hv
  cases hd : dmem d l with
  | true =>
    obtain ⟨j, v, e⟩ := f2 ((dmem_iff d l).1 hd)
    refine ⟨v, ?_⟩
    simp [Instr.lookup, run_underlying Try.underlying104, MapKept.run_getObj_map hb, check_d _ 9998, e, Result.andThen]
  | false =>
    refine ⟨0, ?_⟩
    simp [Instr.lookup, run_underlying Try.underlying104, MapKept.run_getObj_map hb, check_d _ 9998, f1 (dmem_no hd), Try.zeroValue3 w, Result.andThen]
theorem DMap.put {w : World} {b : Nat} {l : List (Nat × ByteArray)} (h : DMap w b l) (d : Nat × ByteArray) (hd : d ∉ l) (v : Int) : ∃ es clock, (Instr.mapUpdate 104 (.map (some b)) (dkey d) (.int .i64 v)).run Try.prog w = .ok () (setBlock w b (.map es clock)) ∧ DMap (setBlock w b (.map es clock)) b (l ++ [d]) := by
  obtain ⟨es, clock, hb, he, hv⟩ := h
  obtain ⟨f1, f2⟩ := findKD w d es.toList l he hv
  refine ⟨es.push ⟨dkey d, .int .i64 v, clock⟩, clock + 1, ?_, ?_⟩
  · simp [Instr.mapUpdate, run_underlying Try.underlying104, MapKept.run_getObj_map hb, check_d _ 9998, f1 hd, MapKept.run_setObj_map _ hb, Result.andThen, setBlock]
  · refine ⟨es.push ⟨dkey d, .int .i64 v, clock⟩, clock + 1, ?_, ?_, ?_⟩
    · have := (Array.getElem?_eq_some_iff.1 hb).1
      simp [setBlock, this]
    · simp [he]
    · intro e h
      simp only [Array.toList_push, List.mem_append, List.mem_singleton] at h
      rcases h with h | rfl
      · exact hv e h
      · exact ⟨v, rfl⟩
theorem DMap.kept {w w' : World} {b : Nat} {l : List (Nat × ByteArray)} (h : DMap w b l) (hb : w'.heap[b]? = w.heap[b]?) : DMap w' b l := by
  obtain ⟨es, clock, h1, h2⟩ := h
  exact ⟨es, clock, hb.trans h1, h2⟩
theorem DMap.lt {w : World} {b : Nat} {l : List (Nat × ByteArray)} (h : DMap w b l) : b < w.heap.size := by
  obtain ⟨es, clock, h1, _⟩ := h
  exact (Array.getElem?_eq_some_iff.1 h1).1
theorem ostruct : Try.prog.underlying 66 = some (.struct (Try.prog.fieldsOf 66)) := by kernel_rfl
theorem ofield0 : ((Try.prog.fieldsOf 66)[0]?).map (fun f => (f.type, f.offset)) = some (9, 0) := by kernel_rfl
theorem ofield1 : ((Try.prog.fieldsOf 66)[1]?).map (fun f => (f.type, f.offset)) = some (3, 1) := by kernel_rfl
theorem run_of0 (s : ByteArray) (x : Int) (w : World) : (Instr.field 66 (.agg #[.string s, .int .i64 x]) 0).run Try.prog w = .ok (.string s) w := by
  obtain ⟨f, hf, e⟩ := Option.map_eq_some_iff.1 ofield0
  simp only [Prod.mk.injEq] at e
  have hp : (part 9 #[.string s, .int .i64 x] 0).run Try.prog w = .ok (.string s) w := run_part_plain (w := w) (by kernel_rfl) rfl
  simp [Instr.field, run_underlying ostruct, hf, e.1, e.2, asAgg, hp, Result.andThen]
theorem run_of1 (s : ByteArray) (x : Int) (w : World) : (Instr.field 66 (.agg #[.string s, .int .i64 x]) 1).run Try.prog w = .ok (.int .i64 x) w := by
  obtain ⟨f, hf, e⟩ := Option.map_eq_some_iff.1 ofield1
  simp only [Prod.mk.injEq] at e
  have hp : (part 3 #[.string s, .int .i64 x] 1).run Try.prog w = .ok (.int .i64 x) w := run_part_plain (w := w) (by kernel_rfl) rfl
  simp [Instr.field, run_underlying ostruct, hf, e.1, e.2, asAgg, hp, Result.andThen]
end Go.Proofs.Ytacmooknfbjpeaa.J
