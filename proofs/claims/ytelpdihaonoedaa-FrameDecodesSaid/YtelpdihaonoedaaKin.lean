/- The map of kinds. -/
import Derived.Test.YtelpdihaonoedaaHlp
import Derived.Laws.EntriesVeiled
import Derived.WideMake
namespace Go.Proofs.Ytelpdihaonoedaa
open Go.RowKit
set_option linter.unusedVariables false
set_option maxRecDepth 20000

theorem arr_push_set {α : Type} (xs : Array α) (a b : α) : (xs.push a).setIfInBounds xs.size b = xs.push b := by
  apply Array.ext
  · simp
  · intro i h1 h2
    simp only [Array.size_setIfInBounds, Array.size_push] at h1
    rw [Array.getElem_setIfInBounds (by simpa using h1)]
    by_cases e : xs.size = i
    · subst e; simp
    · have : i < xs.size := by omega
      simp [e, Array.getElem_push, this]
theorem set_new (w : World) (o o' : Obj) : ({ heap := (w.alloc o).heap.setIfInBounds w.heap.size o', tape := w.tape, drawn := w.drawn, os := (w.alloc o).os, output := (w.alloc o).output } : World) = w.alloc o' := by
  have h : (w.alloc o).heap.setIfInBounds w.heap.size o' = w.heap.push o' := arr_push_set w.heap o o'
  have h2 : w.alloc o' = { w with heap := w.heap.push o' } := rfl
  rw [h, h2]
  rfl
theorem run_put (w : World) (es : Array MapEntry) (c : Nat) (k : Int) (val : Value) (hf : Instr.findNow (.int .i64) (.int .i64 k) es.toList 0 = some none) :
    (Instr.mapUpdate 95 (.map (some w.heap.size)) (.int .i64 k) val).run Try.prog (w.alloc (.map es c)) = .ok () (w.alloc (.map (es.push { key := .int .i64 k, val := val, born := c }) (c + 1))) := by
  have hk : Try.prog.underlying 3 = some (.int .i64) := Try.underlying3
  have hm : Try.prog.underlying 95 = some (.map 3 93) := by kernel_rfl
  have hb : (w.alloc (.map es c)).heap[w.heap.size]? = some (.map es c) := heap_alloc_new w _
  have hc : (Instr.checkKey false 10000 3 (.int .i64 k)).run Try.prog (w.alloc (.map es c)) = .ok () (w.alloc (.map es c)) := MapKept.run_checkKey (k := .int .i64 k) hk (by simp [MapKept.IsKey]) false 9999
  simp [Instr.mapUpdate, run_underlying hm, MapKept.run_getObj_map hb, hc, MapKept.run_findKey hk hf, MapKept.run_setObj_map _ hb, Result.andThen]
  exact set_new w _ _
theorem run_find (w : World) (B : Nat) (es : Array MapEntry) (c : Nat) (k : Int) (v : Value) (i : Nat) (hb : w.heap[B]? = some (.map es c)) (hf : Instr.findNow (.int .i64) (.int .i64 k) es.toList 0 = some (some (i, v))) :
    (Instr.lookup 95 (.map (some B)) (.int .i64 k) true).run Try.prog w = .ok (.tuple #[v, .bool true]) w := by
  have hk : Try.prog.underlying 3 = some (.int .i64) := Try.underlying3
  have hm : Try.prog.underlying 95 = some (.map 3 93) := by kernel_rfl
  have hc : (Instr.checkKey es.isEmpty 10000 3 (.int .i64 k)).run Try.prog w = .ok () w := MapKept.run_checkKey (k := .int .i64 k) hk (by simp [MapKept.IsKey]) _ 9999
  simp [Instr.lookup, run_underlying hm, MapKept.run_getObj_map hb, hc, MapKept.run_findKey hk hf, Result.andThen]
theorem run_miss (w : World) (B : Nat) (es : Array MapEntry) (c : Nat) (k : Int) (hb : w.heap[B]? = some (.map es c)) (hf : Instr.findNow (.int .i64) (.int .i64 k) es.toList 0 = some none) :
    (Instr.lookup 95 (.map (some B)) (.int .i64 k) true).run Try.prog w = .ok (.tuple #[.nilFunc, .bool false]) w := by
  have hk : Try.prog.underlying 3 = some (.int .i64) := Try.underlying3
  have hm : Try.prog.underlying 95 = some (.map 3 93) := by kernel_rfl
  have hz : ∀ w : World, (zeroValue 93).run Try.prog w = .ok .nilFunc w := fun w => by go_simp
  have hc : (Instr.checkKey es.isEmpty 10000 3 (.int .i64 k)).run Try.prog w = .ok () w := MapKept.run_checkKey (k := .int .i64 k) hk (by simp [MapKept.IsKey]) _ 9999
  simp [Instr.lookup, run_underlying hm, MapKept.run_getObj_map hb, hc, MapKept.run_findKey hk hf, Result.andThen, hz]
def kEs : Array MapEntry := #[{ key := .int .i64 1, val := .func (.func 118) #[] #[], born := 0 }, { key := .int .i64 2, val := .func (.func 119) #[] #[], born := 1 }, { key := .int .i64 3, val := .func (.func 120) #[] #[], born := 2 }, { key := .int .i64 4, val := .func (.func 121) #[] #[], born := 3 }]
set_option maxHeartbeats 2000000 in
theorem kinds_any (w : World) : Calls Try.prog 79 #[] w fun e w' => e = .returned (.map (some w.heap.size)) ∧ w'.heap[w.heap.size]? = some (.map kEs 4) ∧ Fr no w w' := by
  have hm := fun w => run_makeMap (P := Try.prog) 95 w
  have e1 := run_put w #[] 0 1 (.func (.func 118) #[] #[]) rfl
  have e2 := run_put w #[{ key := .int .i64 1, val := .func (.func 118) #[] #[], born := 0 }] 1 2 (.func (.func 119) #[] #[]) rfl
  have e3 := run_put w #[{ key := .int .i64 1, val := .func (.func 118) #[] #[], born := 0 }, { key := .int .i64 2, val := .func (.func 119) #[] #[], born := 1 }] 2 3 (.func (.func 120) #[] #[]) rfl
  have e4 := run_put w #[{ key := .int .i64 1, val := .func (.func 118) #[] #[], born := 0 }, { key := .int .i64 2, val := .func (.func 119) #[] #[], born := 1 }, { key := .int .i64 3, val := .func (.func 120) #[] #[], born := 2 }] 3 4 (.func (.func 121) #[] #[]) rfl
  have HF := Lib.hid (show Fr no w (w.alloc (.map kEs 4)) from (Fr.refl no w).alloc _)
  have HN := Lib.hid (heap_alloc_new w (.map kEs 4))
  go_enter Try.func79, Try.ntmps79
  go_wp2_with fail
  go_ret
  exact ⟨rfl, HN.out, HF.out⟩
end Go.Proofs.Ytelpdihaonoedaa
