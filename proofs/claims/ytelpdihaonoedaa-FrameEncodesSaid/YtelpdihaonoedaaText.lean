/- Width, Text. -/
import Derived.Test.YtelpdihaonoedaaUns
import Derived.Test.YtelpdihaonoedaaShelf
namespace Go.Proofs.Ytelpdihaonoedaa
open Go.RowKit
set_option maxRecDepth 20000

def width (most : Int) : Nat := if most < 0 then 0 else max 1 (Lib.bitLen most.toNat)

set_option maxHeartbeats 400000 in
theorem width_any (most : Int) (w : World) (h2 : most ≤ 9223372036854775807) :
    Calls Try.prog 115 #[.int .i64 most] w fun e w' => e = .returned (.int .i64 (width most)) ∧ w' = w := by
  by_cases h : most < 0
  · have HF := Lib.hid (show width most = 0 by simp [width, h])
    go_enter Try.func115, Try.ntmps115
    go_wp2
    go_ret
    rw [HF.out]; exact ⟨rfl, rfl⟩
  · have h0 : 0 ≤ most := by omega
    have HF := Lib.hid (show width most = max 1 (Lib.bitLen most.toNat) by simp [width, h])
    have hb := Lib.bitLen_le most.toNat 64 (by decide) (by omega)
    go_enter Try.func115, Try.ntmps115
    go_wp2_with fail
    refine (Try.bits_Len most _ h0 (by omega)).mono ?_
    rintro e w' ⟨rfl, rfl⟩
    generalize Lib.bitLen most.toNat = q at *
    go_wp2_with fail
    go_ret
    rw [HF.out]
    have e : ((max 1 q : Nat) : Int) = max 1 (q : Int) := by omega
    rw [e]
    exact ⟨rfl, rfl⟩

/-- The bits of a text's first k bytes. -/
def sbits (s : ByteArray) (k : Nat) : List Bool := (s.data.toList.take k).flatMap fun c => ibits 8 (c.toNat : Int)
theorem sbits_succ (s : ByteArray) (k : Nat) (h : k < s.size) : sbits s (k + 1) = sbits s k ++ ibits 8 (s[k].toNat : Int) := by
  unfold sbits
  have : s.data.toList.take (k + 1) = s.data.toList.take k ++ [s[k]] := by
    rw [List.take_succ_eq_append_getElem (by simpa using h)]; rfl
  rw [this]
  simp
theorem sbits_len (s : ByteArray) (k : Nat) (h : k ≤ s.size) : (sbits s k).length = 8 * k := by
  induction k with
  | zero => simp [sbits]
  | succ k ih => rw [sbits_succ s k h, List.length_append, ih (by omega), ibits_len]; omega

set_option maxHeartbeats 1000000 in
theorem tx1_any (base B q0 q1 q2 : Nat) (v : Value) (bs : List Bool) (wd : Nat) (s : ByteArray) (w : World) (hw : wd ≤ 63) (hsz : s.size ≤ 4095)
    (hn : bs.length + (wd + 8 * s.size) ≤ 524288) (hbase : base ≤ w.heap.size) (h : Wr base w B v bs)
    (c0 : w.cell? ⟨q0, 0, none⟩ = some (.int .i64 wd)) (c1 : w.cell? ⟨q1, 0, none⟩ = some (.string s)) (c2 : w.cell? ⟨q2, 0, none⟩ = some (.pointer (some ⟨B, 0, none⟩)))
    (n0 : ¬ foot B v q0) (n1 : ¬ foot B v q1) (n2 : ¬ foot B v q2) (l0 : q0 < w.heap.size) (l1 : q1 < w.heap.size) (l2 : q2 < w.heap.size) :
    Calls Try.prog 117 #[.pointer (some ⟨q0, 0, none⟩), .pointer (some ⟨q1, 0, none⟩), .pointer (some ⟨q2, 0, none⟩)] w fun e w' => e = .returned (.tuple #[]) ∧ ∃ v', Wr base w' B v' (bs ++ (ibits wd s.size ++ sbits s s.size)) ∧ Adv w w' B v v' := by
  have H := Lib.hid h
  have HN := Lib.hid hn
  clear h hn
  go_enter Try.func117, Try.ntmps117
  go_wp2_with fail
  refine (eachBit_any base B v bs wd s.size w hw (by omega) (by omega) (by have := HN.out; omega) hbase H.out).mono ?_
  rintro e w1 ⟨rfl, v1, hr1, ha1⟩
  have d0 : w1.cell? ⟨q0, 0, none⟩ = some (.int .i64 wd) := (ha1.fr.cell l0 n0).trans c0
  have d1 : w1.cell? ⟨q1, 0, none⟩ = some (.string s) := (ha1.fr.cell l1 n1).trans c1
  have d2 : w1.cell? ⟨q2, 0, none⟩ = some (.pointer (some ⟨B, 0, none⟩)) := (ha1.fr.cell l2 n2).trans c2
  have hsz1 := ha1.fr.size
  have m1 : ¬ foot B v1 q1 := fun hf => by
    rcases hf with hf | hf
    · exact n1 (.inl hf)
    · rcases ha1.row _ hf with hf | hf
      · exact n1 (.inr hf)
      · omega
  have m2 : ¬ foot B v1 q2 := fun hf => by
    rcases hf with hf | hf
    · exact n2 (.inl hf)
    · rcases ha1.row _ hf with hf | hf
      · exact n2 (.inr hf)
      · omega
  have HR1 := Lib.hid hr1
  have HA1 := Lib.hid ha1
  clear hr1 ha1
  go_wp2_with fail
  go_loopw [12] (fun i wr => ∃ k : Nat, k ≤ s.size ∧ i = .int .i64 k ∧ wr.cell? ⟨q1, 0, none⟩ = some (.string s) ∧ wr.cell? ⟨q2, 0, none⟩ = some (.pointer (some ⟨B, 0, none⟩)) ∧ ∃ v', Wr base wr B v' (bs ++ (ibits wd s.size ++ sbits s k)) ∧ Adv w1 wr B v1 v') (fun i _ => s.size - (intOf i).toNat)
  case atStart => exact ⟨0, Nat.zero_le _, rfl, d1, d2, v1, by simpa [sbits] using HR1.out, Adv.refl _ _ _⟩
  case round =>
    obtain ⟨k, hk, rfl, e1, e2, v2, hwr, hadv⟩ := hrel
    have HW := Lib.hid hwr
    have HA := Lib.hid hadv
    clear hwr hadv d0 d1 d2 c0 c1 c2
    by_cases hlt : k < s.size
    · have HT := Lib.hid (sbits_succ s k hlt)
      have hsz2 := HA.out.fr.size
      have hlen : (bs ++ (ibits wd s.size ++ sbits s k)).length = bs.length + (wd + 8 * k) := by simp [ibits_len, sbits_len s k hk]
      have HL := Lib.hid hlen
      clear hlen
      go_wp2_with fail
      refine still_tail_d 6 Try.mixed (by kernel_rfl) ?_
      simp only [List.take_succ_cons, List.take_zero, List.drop_succ_cons, List.drop_zero]
      repeat still_step
      refine wpStill_nil ?_
      go_wp2_with fail
      rw [show wrap64 ((s[k].toNat : Nat) : Int) = ((s[k].toNat : Nat) : Int) from IntWalk.wrap64_in _ ⟨by omega, by have := s[k].toNat_lt; omega⟩]
      refine (eachBit_any base B v2 _ 8 _ _ (by omega) (by omega) (by have := s[k].toNat_lt; omega) (by rw [HL.out]; have := HN.out; omega) (by simp; omega) HW.out.drew).mono ?_
      rintro e w' ⟨rfl, v3, hw3, ha3⟩
      have k1 : ¬ foot B v2 q1 := fun hf => by
        rcases hf with hf | hf
        · exact m1 (.inl hf)
        · rcases HA.out.row _ hf with hf | hf
          · exact m1 (.inr hf)
          · omega
      have k2 : ¬ foot B v2 q2 := fun hf => by
        rcases hf with hf | hf
        · exact m2 (.inl hf)
        · rcases HA.out.row _ hf with hf | hf
          · exact m2 (.inr hf)
          · omega
      have g1 : w'.cell? ⟨q1, 0, none⟩ = some (.string s) := (ha3.fr.cell (by simp; omega) k1).trans (by simpa using e1)
      have g2 : w'.cell? ⟨q2, 0, none⟩ = some (.pointer (some ⟨B, 0, none⟩)) := (ha3.fr.cell (by simp; omega) k2).trans (by simpa using e2)
      have HW3 := Lib.hid hw3
      have HA3 := Lib.hid ha3
      clear hw3 ha3 e1 e2
      go_wp2_with fail
      go_roundw
      case rel =>
        refine ⟨k + 1, by omega, by go_num, g1, g2, v3, ?_, HA.out.drew.trans HA3.out⟩
        rw [HT.out, ← List.append_assoc, ← List.append_assoc]
        have := HW3.out
        rwa [← List.append_assoc] at this
      case measure => simp [intOf]; omega
    · go_wp2_with fail
      go_end0
      have e : k = s.size := by omega
      subst e
      exact ⟨rfl, v2, HW.out, HA1.out.trans HA.out⟩

theorem width_le (most : Int) (h : most ≤ 4095) : width most ≤ 12 := by
  unfold width
  split
  · omega
  · have := Lib.bitLen_le most.toNat 12 (by decide) (by omega)
    omega
theorem width_le64 (most : Int) (h : most ≤ 9223372036854775807) : width most ≤ 63 := by
  unfold width
  split
  · omega
  · have := Lib.bitLen_le most.toNat 63 (by decide) (by omega)
    omega

theorem tErr_zero {most len : Int} (h : tErr most len = 0) : 1 ≤ most ∧ most ≤ 4095 ∧ len ≤ most := by
  unfold tErr at h; split at h
  · rename_i hm
    split at h
    · cases h
    · exact ⟨hm.1, hm.2, by omega⟩
  · cases h

def wText (most : Int) (s : ByteArray) (st : WSt) : WSt := wField (tErr most s.size) (width most + 8 * s.size) (ibits (width most) s.size ++ sbits s s.size) st

set_option maxHeartbeats 400000 in
set_option maxRecDepth 20000 in
theorem text_any (base B : Nat) (v : Value) (st : WSt) (most : Int) (s : ByteArray) (w : World) (hm2 : most ≤ 9223372036854775807) (hs : s.size ≤ 140737488355328) (h : WrS base w B v st) :
    Calls Try.prog 77 #[.pointer (some ⟨B, 0, none⟩), .int .i64 most, .string s] w fun e w' => e = .returned (.tuple #[]) ∧ ∃ v', WrS base w' B v' (wText most s st) ∧ Adv w w' B v v' := by
  have H := Lib.hid h
  clear h
  have hwd := width_le64 most hm2
  go_enter Try.func77, Try.ntmps77
  go_wp2_with fail
  refine (width_any most _ hm2).mono ?_
  rintro e w0 ⟨rfl, rfl⟩
  go_wp2_with fail
  obtain ⟨w1, hw1⟩ : ∃ w1, w1 = (((w.alloc (Obj.cells #[Value.pointer (some { block := B, off := 0 })] 46)).alloc (Obj.cells #[Value.string s] 9)).alloc (Obj.cells #[Value.int IntKind.i64 (width most)] 3)) := ⟨_, rfl⟩
  rw [← hw1]
  have hs1 : w1.heap.size = w.heap.size + 3 := by rw [hw1]; simp
  have HS := Lib.hid hs1
  have c0 : w1.cell? ⟨w.heap.size, 0, none⟩ = some (.pointer (some ⟨B, 0, none⟩)) := by rw [hw1]; simp [go_sem]
  have c1 : w1.cell? ⟨w.heap.size + 1, 0, none⟩ = some (.string s) := by rw [hw1]; simp [go_sem]
  have c2 : w1.cell? ⟨w.heap.size + 1 + 1, 0, none⟩ = some (.int .i64 (width most)) := by rw [hw1]; simp [go_sem]
  have H1 : WrS base w1 B v st := by rw [hw1]; exact ((H.out.alloc _).alloc _).alloc _
  have A1 : Adv w w1 B v v := by rw [hw1]; exact (((Adv.refl _ _ _).alloc _).alloc _).alloc _
  have HH := Lib.hid H1
  have AA := Lib.hid A1
  clear hw1 hs1 H1 A1
  have e8 : IntKind.i64.wrap (8 * (s.size : Int)) = 8 * s.size := IntWalk.i64_in _ (by omega)
  have e9 : IntKind.i64.wrap ((width most : Int) + 8 * s.size) = width most + 8 * s.size := IntWalk.i64_in _ (by omega)
  refine still_tail_d 10 Try.mixed (by kernel_rfl) ?_
  simp only [List.take_succ_cons, List.take_zero, List.drop_succ_cons, List.drop_zero]
  repeat still_step
  still_call (checkText_any most s _)
  repeat still_step
  refine wpStill_nil ?_
  go_wp2_with fail
  clear e8 e9
  refine (field_any base B v st (tErr most s.size) _ (ibits (width most) s.size ++ sbits s s.size) 117 _ _ HH.out.drew (fun he => ?_) (fun wx => ?_) (fun he hwr hle => ?_)).mono ?_
  · simp [ibits_len, sbits_len s s.size (Nat.le_refl _)]
  · simp [go_sem]
  · have hb := tErr_zero he
    have hs' := HS.out
    have hB := H.out.hB
    have hBlt := lt_of_blk H.out.blk
    have hfoot : ∀ q, w.heap.size ≤ q → ¬ foot B v q := by
      intro q hq hf
      rcases hf with hf | hf
      · omega
      · obtain ⟨l, hl, ho⟩ := hwr.own
        have hlt := (H.out.own (by
          rcases Classical.em (st.e = 0) with h | h
          · exact h
          · have := H.out.nil h
            rw [this] at hf
            simp [Value.ownBlock] at hf))
        obtain ⟨l', _, ho'⟩ := hlt
        have := (ho'.lt q hf).2
        omega
    rw [List.length_append, ibits_len, sbits_len s s.size (Nat.le_refl _)] at hle
    exact tx1_any base B _ _ _ v st.bs (width most) s _ hwd (by omega) hle (by simp; omega) hwr c2 c1 c0 (hfoot _ (by omega)) (hfoot _ (by omega)) (hfoot _ (by omega)) (by simp; omega) (by simp; omega) (by simp; omega)
  rintro e w' ⟨rfl, v', hr, ha⟩
  have HR := Lib.hid hr
  have HA := Lib.hid ha
  clear hr ha
  go_wp2_with fail
  go_end0
  exact ⟨rfl, v', HR.out, AA.out.drew.trans HA.out⟩

theorem newWriter_any (w : World) : Calls Try.prog 31 #[] w fun e w' => e = .returned (.pointer (some ⟨w.heap.size, 0, none⟩)) ∧ w' = w.alloc (.cells #[.slice none 0 0, .int .i64 0, .int .i64 0] 90) := by
  go_enter Try.func31, Try.ntmps31
  go_wp2
  go_ret
  exact ⟨rfl, rfl⟩
theorem newWriter_st (base : Nat) (w : World) (h : base ≤ w.heap.size) : WrS base (w.alloc (.cells #[.slice none 0 0, .int .i64 0, .int .i64 0] 90)) w.heap.size (.slice none 0 0) ⟨[], 0⟩ :=
  ⟨heap_alloc_new w _, h, fun _ => ⟨[], Packs.nil, World.ownsRow_nil _ _ _ _⟩, by simp [Value.ownBlock], fun _ => rfl, by simp⟩

def strOf (l : List Nat) : ByteArray := ⟨(l.map UInt8.ofNat).toArray⟩
theorem strOf_size (l : List Nat) : (strOf l).size = l.length := by simp [strOf, ByteArray.size]

theorem convert_bytes {w : World} {base : Nat} {v : Value} {l : List Nat} (h : w.ownsRow base 5 1 v l.length (bytesV l)) (hb : ∀ j, l.getD j 0 < 256) : (convert 41 9 v).run Try.prog w = .ok (.string (strOf l)) w := by
  rcases h.2 with ⟨rfl, h0⟩ | ⟨g, cap, cur, rfl, _, hg, _⟩
  · rw [run_convert_bytes_nil w 41 5 Try.underlying41 Try.underlying5 0 0 9 Try.underlying9]
    have : l = [] := List.length_eq_zero_iff.1 h0
    subst this
    rfl
  · have hc : ∀ j (hj : j < (l.map UInt8.ofNat).length), w.cell? ((⟨g, 0, none⟩ : Addr).add j) = some (.int .u8 ((l.map UInt8.ofNat)[j].toNat : Int)) := by
      intro j hj
      have hj' : j < l.length := by simpa using hj
      have hadd : (⟨g, 0, none⟩ : Addr).add j = ⟨g, j, none⟩ := by unfold Addr.add; split <;> simp_all
      rw [hadd, h.cellAt j (by omega), bytesV_get l j hj']
      have := hb j
      simp only [List.getElem_map, UInt8.toNat_ofNat']
      simp only [List.getD_eq_getElem?_getD, List.getElem?_eq_getElem hj', Option.getD_some] at this ⊢
      congr 3
      exact (Nat.mod_eq_of_lt this).symm
    have := run_convert_bytes_back (P := Try.prog) w 41 9 5 ⟨g, 0, none⟩ cap (l.map UInt8.ofNat) Try.underlying41 Try.underlying5 Try.underlying9 hc
    simpa [strOf] using this

def wBytes (st : WSt) : ByteArray := if st.e ≠ 0 then ByteArray.empty else strOf (packB st.bs)

theorem bytes_err (base B : Nat) (v : Value) (st : WSt) (w : World) (h : WrS base w B v st) (he : (st.e != 0) = true) :
    Calls Try.prog 34 #[.pointer (some ⟨B, 0, none⟩)] w fun e w' => e = .returned (.tuple #[.string ByteArray.empty, .int .i64 st.e]) ∧ ∃ n, w' = w.drewN n := by
  obtain ⟨h0, h1, h2, f0, f1, f2⟩ := three_cells h.blk
  clear h
  go_enter Try.func34, Try.ntmps34
  go_wp2
  go_region
  go_wp2
  go_ret2
  exact ⟨rfl, 1, rfl⟩
set_option maxHeartbeats 400000 in
theorem bytes_ok (base B : Nat) (v : Value) (bs : List Bool) (w : World) (h : WrS base w B v ⟨bs, 0⟩) :
    Calls Try.prog 34 #[.pointer (some ⟨B, 0, none⟩)] w fun e w' => e = .returned (.tuple #[.string (strOf (packB bs)), .int .i64 0]) ∧ ∃ n, w' = w.drewN n := by
  obtain ⟨h0, h1, h2, f0, f1, f2⟩ := three_cells h.blk
  obtain ⟨l, hp, ho⟩ := h.own rfl
  have e := hp.inj (packs_packB bs)
  subst e
  have hcv := convert_bytes ho hp.byte
  clear h ho hp
  generalize strOf (packB bs) = s at *
  go_enter Try.func34, Try.ntmps34
  go_wp2
  go_ret2
  exact ⟨rfl, 0, rfl⟩
theorem bytes_any (base B : Nat) (v : Value) (st : WSt) (w : World) (h : WrS base w B v st) :
    Calls Try.prog 34 #[.pointer (some ⟨B, 0, none⟩)] w fun e w' => e = .returned (.tuple #[.string (wBytes st), .int .i64 st.e]) ∧ ∃ n, w' = w.drewN n := by
  obtain ⟨bs, e⟩ := st
  by_cases he : e = 0
  · subst he
    simpa [wBytes] using bytes_ok base B v bs w h
  · simpa [wBytes, he] using bytes_err base B v ⟨bs, e⟩ w h (by simpa using he)
end Go.Proofs.Ytelpdihaonoedaa
