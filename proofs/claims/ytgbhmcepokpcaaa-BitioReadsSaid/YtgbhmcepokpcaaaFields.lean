/- Lists of fields in memory: 'few', 'write', 'read'. -/
import Derived.Test.YtgbhmcepokpcaaaMath
namespace Go.Proofs.Ytgbhmcepokpcaaa
open Go.RowKit

structure Fld where
  kind : Int
  width : Int
  n : Int
  s : ByteArray

/-- What fits into a field's memory. -/
structure Fld.Ok (f : Fld) : Prop where
  k1 : -9223372036854775808 ≤ f.kind
  k2 : f.kind ≤ 9223372036854775807
  w1 : -9223372036854775808 ≤ f.width
  w2 : f.width ≤ 9223372036854775807
  n1 : -9223372036854775808 ≤ f.n
  n2 : f.n ≤ 9223372036854775807
  s1 : f.s.size ≤ 9223372036854775807

/-- The len fields fs lie behind the address ao, in blocks below base. -/
def FieldsIn (base : Nat) (w : World) (ao : Option Addr) (len : Nat) (fs : Nat → Fld) : Prop :=
  ∀ i, i < len → (fs i).Ok ∧ ∃ b off, ao = some ⟨b, off, none⟩ ∧ b < base ∧ w.cell? ⟨b, off + i * 4, none⟩ = some (.int .i64 (fs i).kind) ∧ w.cell? ⟨b, off + i * 4 + 1, none⟩ = some (.int .i64 (fs i).width) ∧
    w.cell? ⟨b, off + i * 4 + 2, none⟩ = some (.int .i64 (fs i).n) ∧ w.cell? ⟨b, off + i * 4 + 3, none⟩ = some (.string (fs i).s)

theorem FieldsIn.below {base : Nat} {w w' : World} {ao : Option Addr} {len : Nat} {fs : Nat → Fld} (h : FieldsIn base w ao len fs) (hb : Below base w w') : FieldsIn base w' ao len fs := fun i hi => by
  obtain ⟨ok, b, off, e, hlt, c0, c1, c2, c3⟩ := h i hi
  exact ⟨ok, b, off, e, hlt, (hb.cell (p := ⟨b, _, none⟩) hlt).trans c0, (hb.cell (p := ⟨b, _, none⟩) hlt).trans c1, (hb.cell (p := ⟨b, _, none⟩) hlt).trans c2, (hb.cell (p := ⟨b, _, none⟩) hlt).trans c3⟩

def fewTo (fs : Nat → Fld) (k : Nat) : Bool := (List.range k).all fun i => decide ((fs i).s.size ≤ 200)
theorem fewTo_succ (fs : Nat → Fld) (k : Nat) : fewTo fs (k + 1) = (fewTo fs k && decide ((fs k).s.size ≤ 200)) := by simp [fewTo, List.range_succ]
def fewB (fs : Nat → Fld) (len : Nat) : Bool := decide (len ≤ 40) && fewTo fs len
theorem fewTo_mono (fs : Nat → Fld) {k m : Nat} (h : k ≤ m) (hk : fewTo fs k = false) : fewTo fs m = false := by
  cases hm : fewTo fs m with
  | false => rfl
  | true =>
    have : fewTo fs k = true := by
      simp only [fewTo, List.all_eq_true, List.mem_range, decide_eq_true_eq] at hm ⊢
      exact fun i hi => hm i (by omega)
    rw [hk] at this; cases this

set_option maxHeartbeats 1000000 in
theorem few_any (base : Nat) (ao : Option Addr) (len cap : Nat) (fs : Nat → Fld) (w : World) (hl : len ≤ 9223372036854775807) (hbase : base ≤ w.heap.size) (h : FieldsIn base w ao len fs) :
    Calls Try.prog 12 #[.slice ao len cap] w fun e w' => e = .returned (.bool (fewB fs len)) ∧ Below w.heap.size w w' := by
  by_cases hlen : len ≤ 40
  · have HF := Lib.hid (show fewB fs len = fewTo fs len by simp [fewB, hlen])
    go_enter Try.func12, Try.ntmps12
    go_wp2
    go_loopw [10] (fun i wr => ∃ k : Nat, k ≤ len ∧ i = .int .i64 k ∧ Hid (fewTo fs k = true) ∧ Below w.heap.size w wr) (fun i _ => len - (intOf i).toNat)
    case atStart => exact ⟨0, Nat.zero_le _, rfl, rfl, Below.refl _ _⟩
    case round =>
      obtain ⟨k, hk, rfl, HT, hb⟩ := hrel
      have HB := Lib.hid hb
      clear hb
      by_cases hlt : k < len
      · obtain ⟨ok, b, off, rfl, hblt, c0, c1, c2, c3⟩ := h k hlt
        have d0 := (HB.out.cell (p := ⟨b, _, none⟩) (by simp only; omega)).trans c0
        have d1 := (HB.out.cell (p := ⟨b, _, none⟩) (by simp only; omega)).trans c1
        have d2 := (HB.out.cell (p := ⟨b, _, none⟩) (by simp only; omega)).trans c2
        have d3 := (HB.out.cell (p := ⟨b, _, none⟩) (by simp only; omega)).trans c3
        have s1 := ok.s1
        have HS := Lib.hid (fewTo_succ fs k)
        clear c0 c1 c2 c3 h
        by_cases hs : (fs k).s.size ≤ 200
        · have HS2 := Lib.hid (show fewTo fs (k + 1) = true by rw [HS.out, HT.out]; simp [hs])
          go_wp2
          go_roundw
          case rel => exact ⟨k + 1, by omega, by go_num, HS2.out, HB.out.alloc HB.out.size _⟩
          case measure => simp [intOf]; omega
        · have HS2 := Lib.hid (show fewTo fs len = false from fewTo_mono fs (show k + 1 ≤ len by omega) (by rw [HS.out]; simp [hs]))
          go_wp2
          go_ret
          rw [HF.out, HS2.out]
          exact ⟨rfl, HB.out.alloc HB.out.size _⟩
      · go_wp2
        go_ret
        have e : k = len := by omega
        subst e
        rw [HF.out, HT.out]
        exact ⟨rfl, HB.out⟩
  · have HF := Lib.hid (show fewB fs len = false by simp [fewB, hlen])
    go_enter Try.func12, Try.ntmps12
    go_wp2
    go_ret
    rw [HF.out]
    exact ⟨rfl, Below.refl _ _⟩

def Fld.val (f : Fld) : Value := .agg #[.int .i64 f.kind, .int .i64 f.width, .int .i64 f.n, .string f.s]

def wWrite (f : Fld) (st : WSt) : WSt :=
  if f.kind = 0 then wUnsigned f.width f.n st else if f.kind = 1 then wSigned f.width f.n st else if f.kind = 2 then wFlag (f.n != 0) st else if f.kind = 3 then wText f.width f.s st else st

set_option maxHeartbeats 1000000 in
theorem write_any (base B : Nat) (v : Value) (st : WSt) (f : Fld) (w : World) (ok : f.Ok) (hsz : f.s.size ≤ 140737488355328) (h : WrS base w B v st) :
    Calls Try.prog 15 #[.pointer (some ⟨B, 0, none⟩), f.val] w fun e w' => e = .returned (.tuple #[]) ∧ ∃ v', WrS base w' B v' (wWrite f st) ∧ Adv w w' B v v' := by
  obtain ⟨kind, wd, n, s⟩ := f
  obtain ⟨k1, k2, w1, w2, n1, n2, _⟩ := ok
  have s1 := hsz
  clear hsz
  simp only at k1 k2 w1 w2 n1 n2 s1
  simp only [Fld.val]
  have H1 := Lib.hid (h.alloc (.cells #[.int .i64 kind, .int .i64 wd, .int .i64 n, .string s] 30))
  have A1 := Lib.hid ((Adv.refl w B v).alloc (.cells #[.int .i64 kind, .int .i64 wd, .int .i64 n, .string s] 30))
  clear h
  by_cases c0 : kind = 0
  · subst c0
    have HF := Lib.hid (show wWrite ⟨0, wd, n, s⟩ st = wUnsigned wd n st by simp [wWrite])
    go_enter Try.func15, Try.ntmps15
    go_wp2_with fail
    refine (unsigned_any base B v st wd n _ n1 n2 H1.out).mono ?_
    rintro e w' ⟨rfl, v', hr, ha⟩
    have HR := Lib.hid hr
    have HA := Lib.hid ha
    clear hr ha
    go_wp2_with fail
    go_end0
    rw [HF.out]
    exact ⟨rfl, v', HR.out, A1.out.trans HA.out⟩
  by_cases c1 : kind = 1
  · subst c1
    have HF := Lib.hid (show wWrite ⟨1, wd, n, s⟩ st = wSigned wd n st by simp [wWrite])
    go_enter Try.func15, Try.ntmps15
    go_wp2_with fail
    refine (signed_any base B v st wd n _ n1 n2 H1.out).mono ?_
    rintro e w' ⟨rfl, v', hr, ha⟩
    have HR := Lib.hid hr
    have HA := Lib.hid ha
    clear hr ha
    go_wp2_with fail
    go_end0
    rw [HF.out]
    exact ⟨rfl, v', HR.out, A1.out.trans HA.out⟩
  by_cases c2 : kind = 2
  · subst c2
    have HF := Lib.hid (show wWrite ⟨2, wd, n, s⟩ st = wFlag (n != 0) st by simp [wWrite])
    go_enter Try.func15, Try.ntmps15
    go_wp2_with fail
    refine (flag_any base B v st (n != 0) _ H1.out).mono ?_
    rintro e w' ⟨rfl, v', hr, ha⟩
    have HR := Lib.hid hr
    have HA := Lib.hid ha
    clear hr ha
    go_wp2_with fail
    go_end0
    rw [HF.out]
    exact ⟨rfl, v', HR.out, A1.out.trans HA.out⟩
  by_cases c3 : kind = 3
  · subst c3
    have HF := Lib.hid (show wWrite ⟨3, wd, n, s⟩ st = wText wd s st by simp [wWrite])
    go_enter Try.func15, Try.ntmps15
    go_wp2_with fail
    refine (text_any base B v st wd s _ w2 s1 H1.out).mono ?_
    rintro e w' ⟨rfl, v', hr, ha⟩
    have HR := Lib.hid hr
    have HA := Lib.hid ha
    clear hr ha
    go_wp2_with fail
    go_end0
    rw [HF.out]
    exact ⟨rfl, v', HR.out, A1.out.trans HA.out⟩
  · have HF := Lib.hid (show wWrite ⟨kind, wd, n, s⟩ st = st by simp [wWrite, c0, c1, c2, c3])
    have b0 : (kind == 0) = false := by simpa using c0
    have b1 : (kind == 1) = false := by simpa using c1
    have b2 : (kind == 2) = false := by simpa using c2
    have b3 : (kind == 3) = false := by simpa using c3
    clear c0 c1 c2 c3
    go_enter Try.func15, Try.ntmps15
    go_wp2_with fail
    go_end0
    rw [HF.out]
    exact ⟨rfl, v, H1.out, A1.out⟩

/-- A block of four cells. -/
theorem four_cells {w : World} {B T : Nat} {a b c d : Value} (h : w.heap[B]? = some (.cells #[a, b, c, d] T (0, 0))) :
    w.cell? ⟨B, 0, none⟩ = some a ∧ w.cell? ⟨B, 1, none⟩ = some b ∧ w.cell? ⟨B, 2, none⟩ = some c ∧ w.cell? ⟨B, 3, none⟩ = some d ∧
    w.frozen? ⟨B, 0, none⟩ = false ∧ w.frozen? ⟨B, 1, none⟩ = false ∧ w.frozen? ⟨B, 2, none⟩ = false ∧ w.frozen? ⟨B, 3, none⟩ = false := by
  simp [World.cell?, World.frozen?, h]

def rRead (f : Fld) (st : RSt) : Fld × RSt :=
  if f.kind = 0 then (⟨f.kind, f.width, (rUnsigned f.width st).1, ByteArray.empty⟩, (rUnsigned f.width st).2)
  else if f.kind = 1 then (⟨f.kind, f.width, (rSigned f.width st).1, ByteArray.empty⟩, (rSigned f.width st).2)
  else if f.kind = 2 then (⟨f.kind, 0, if (rFlag st).1 then 1 else 0, ByteArray.empty⟩, (rFlag st).2)
  else if f.kind = 3 then (⟨f.kind, f.width, 0, (rText f.width st).1⟩, (rText f.width st).2)
  else (f, st)

theorem RdS.set {w : World} {B : Nat} {st : RSt} (h : RdS w B st) {p : Addr} (hp : B ≠ p.block) (u : Value) : RdS (w.setCell p u) B st := ⟨(Below.heap_setCell w p u B hp).trans h.blk, h.le, h.sz⟩

/-- What 'read' has laid: its own field, and its result. -/
theorem read_boxes {w w1 : World} {B : Nat} {a b c d : Value} (hB : B < w.heap.size) (hf : Fr (only B) ((w.alloc (.cells #[a, b, c, d] 30)).alloc (.cells #[.int .i64 0, .int .i64 0, .int .i64 0, .string ⟨#[]⟩] 30)) w1) :
    w1.heap[w.heap.size]? = some (.cells #[a, b, c, d] 30 (0, 0)) ∧ w1.heap[w.heap.size + 1]? = some (.cells #[.int .i64 0, .int .i64 0, .int .i64 0, .string ⟨#[]⟩] 30 (0, 0)) ∧ Fr (only B) w w1 :=
  ⟨hf.blk (by rw [Below.heap_alloc _ _ _ (by simp)]; exact heap_alloc_new w _) (by simp only [only]; omega),
   hf.blk (by have := heap_alloc_new (w.alloc (.cells #[a, b, c, d] 30)) (.cells #[.int .i64 0, .int .i64 0, .int .i64 0, .string ⟨#[]⟩] 30); simpa using this) (by simp only [only]; omega),
   (((Fr.refl (only B) w).alloc _).alloc _).onlyTrans hf⟩

set_option maxHeartbeats 2000000 in
theorem read_any (B : Nat) (st : RSt) (f : Fld) (w : World) (ok : f.Ok) (h : RdS w B st) :
    Calls Try.prog 23 #[.pointer (some ⟨B, 0, none⟩), f.val] w fun e w' => e = .returned (rRead f st).1.val ∧ RdS w' B (rRead f st).2 ∧ Fr (only B) w w' := by
  obtain ⟨kind, wd, n, s⟩ := f
  obtain ⟨k1, k2, w1, w2, n1, n2, s1⟩ := ok
  simp only at k1 k2 w1 w2 n1 n2 s1
  simp only [Fld.val]
  by_cases c0 : kind = 0
  · subst c0
    have HF := Lib.hid (show rRead ⟨0, wd, n, s⟩ st = (⟨0, wd, (rUnsigned wd st).1, ByteArray.empty⟩, (rUnsigned wd st).2) by simp [rRead])
    have H := Lib.hid h
    clear h
    go_enter Try.func23, Try.ntmps23
    go_wp2_with fail
    have hB := lt_of_blk H.out.blk
    refine (rUnsigned_any B st wd _ ((H.out.alloc _).alloc _)).mono ?_
    rintro e w1 ⟨rfl, hr, hf⟩
    obtain ⟨hF, hR, hf2⟩ := read_boxes hB hf
    obtain ⟨f0, f1, f2, f3, g0, g1, g2, g3⟩ := four_cells hF
    obtain ⟨r0, r1, r2, r3, q0, q1, q2, q3⟩ := four_cells hR
    have HR := Lib.hid hr
    have HFr := Lib.hid hf2
    clear hr hf hf2 hF hR
    generalize hx : (rUnsigned wd st).1 = x at *
    clear hx
    go_wp2_with fail
    refine bodyPost_ret (v := .agg #[.int .i64 0, .int .i64 wd, .int .i64 x, .string ⟨#[]⟩]) (by simp [results, Try.results23, go_sem, r0, r1, r2, r3]) rfl ?_
    rw [HF.out]
    refine ⟨rfl, ?_, ?_⟩
    · exact (((((HR.out.set (by simp only; omega) _).set (by simp only; omega) _).set (by simp only; omega) _).set (by simp only; omega) _).set (by simp only; omega) _).set (by simp only; omega) _
    · have hsz := HFr.out.size
      exact (((((HFr.out.setCell (.inr (by simp only; omega)) _).setCell (.inr (by simp only; omega)) _).setCell (.inr (by simp only; omega)) _).setCell (.inr (by simp only; omega)) _).setCell (.inr (by simp only; omega)) _).setCell (.inr (by simp only; omega)) _
  by_cases c1 : kind = 1
  · subst c1
    have HF := Lib.hid (show rRead ⟨1, wd, n, s⟩ st = (⟨1, wd, (rSigned wd st).1, ByteArray.empty⟩, (rSigned wd st).2) by simp [rRead])
    have H := Lib.hid h
    clear h
    go_enter Try.func23, Try.ntmps23
    go_wp2_with fail
    have hB := lt_of_blk H.out.blk
    refine (rSigned_any B st wd _ ((H.out.alloc _).alloc _)).mono ?_
    rintro e w1 ⟨rfl, hr, hf⟩
    obtain ⟨hF, hR, hf2⟩ := read_boxes hB hf
    obtain ⟨f0, f1, f2, f3, g0, g1, g2, g3⟩ := four_cells hF
    obtain ⟨r0, r1, r2, r3, q0, q1, q2, q3⟩ := four_cells hR
    have HR := Lib.hid hr
    have HFr := Lib.hid hf2
    clear hr hf hf2 hF hR
    generalize hx : (rSigned wd st).1 = x at *
    clear hx
    go_wp2_with fail
    refine bodyPost_ret (v := .agg #[.int .i64 1, .int .i64 wd, .int .i64 x, .string ⟨#[]⟩]) (by simp [results, Try.results23, go_sem, r0, r1, r2, r3]) rfl ?_
    rw [HF.out]
    refine ⟨rfl, ?_, ?_⟩
    · exact (((((HR.out.set (by simp only; omega) _).set (by simp only; omega) _).set (by simp only; omega) _).set (by simp only; omega) _).set (by simp only; omega) _).set (by simp only; omega) _
    · have hsz := HFr.out.size
      exact (((((HFr.out.setCell (.inr (by simp only; omega)) _).setCell (.inr (by simp only; omega)) _).setCell (.inr (by simp only; omega)) _).setCell (.inr (by simp only; omega)) _).setCell (.inr (by simp only; omega)) _).setCell (.inr (by simp only; omega)) _
  by_cases c3 : kind = 3
  · subst c3
    have HF := Lib.hid (show rRead ⟨3, wd, n, s⟩ st = (⟨3, wd, 0, (rText wd st).1⟩, (rText wd st).2) by simp [rRead])
    have H := Lib.hid h
    clear h
    go_enter Try.func23, Try.ntmps23
    go_wp2_with fail
    have hB := lt_of_blk H.out.blk
    refine (rText_any B st wd _ w2 ((H.out.alloc _).alloc _)).mono ?_
    rintro e w1 ⟨rfl, hr, hf⟩
    obtain ⟨hF, hR, hf2⟩ := read_boxes hB hf
    obtain ⟨f0, f1, f2, f3, g0, g1, g2, g3⟩ := four_cells hF
    obtain ⟨r0, r1, r2, r3, q0, q1, q2, q3⟩ := four_cells hR
    have HR := Lib.hid hr
    have HFr := Lib.hid hf2
    clear hr hf hf2 hF hR
    generalize hx : (rText wd st).1 = x at *
    clear hx
    go_wp2_with fail
    refine bodyPost_ret (v := .agg #[.int .i64 3, .int .i64 wd, .int .i64 0, .string x]) (by simp [results, Try.results23, go_sem, r0, r1, r2, r3]) rfl ?_
    rw [HF.out]
    refine ⟨rfl, ?_, ?_⟩
    · exact (((((HR.out.set (by simp only; omega) _).set (by simp only; omega) _).set (by simp only; omega) _).set (by simp only; omega) _).set (by simp only; omega) _).set (by simp only; omega) _
    · have hsz := HFr.out.size
      exact (((((HFr.out.setCell (.inr (by simp only; omega)) _).setCell (.inr (by simp only; omega)) _).setCell (.inr (by simp only; omega)) _).setCell (.inr (by simp only; omega)) _).setCell (.inr (by simp only; omega)) _).setCell (.inr (by simp only; omega)) _
  by_cases c2 : kind = 2
  · subst c2
    have HF := Lib.hid (show rRead ⟨2, wd, n, s⟩ st = (⟨2, 0, if (rFlag st).1 then 1 else 0, ByteArray.empty⟩, (rFlag st).2) by simp [rRead])
    have H := Lib.hid h
    clear h
    go_enter Try.func23, Try.ntmps23
    go_wp2_with fail
    have hB := lt_of_blk H.out.blk
    refine (rFlag_any B st _ ((H.out.alloc _).alloc _)).mono ?_
    rintro e w1 ⟨rfl, hr, hf⟩
    obtain ⟨hF, hR, hf2⟩ := read_boxes hB hf
    obtain ⟨f0, f1, f2, f3, g0, g1, g2, g3⟩ := four_cells hF
    obtain ⟨r0, r1, r2, r3, q0, q1, q2, q3⟩ := four_cells hR
    have HR := Lib.hid hr
    have HFr := Lib.hid hf2
    clear hr hf hf2 hF hR
    cases hx : (rFlag st).1
    · have HX := Lib.hid hx
      clear hx
      go_wp2_with fail
      refine bodyPost_ret (v := .agg #[.int .i64 2, .int .i64 0, .int .i64 0, .string ⟨#[]⟩]) (by simp [results, Try.results23, go_sem, r0, r1, r2, r3]) rfl ?_
      rw [HF.out]
      refine ⟨by rw [HX.out]; rfl, ?_, ?_⟩
      · exact (((HR.out.set (by simp only; omega) _).set (by simp only; omega) _).set (by simp only; omega) _).set (by simp only; omega) _
      · have hsz := HFr.out.size
        exact (((HFr.out.setCell (.inr (by simp only; omega)) _).setCell (.inr (by simp only; omega)) _).setCell (.inr (by simp only; omega)) _).setCell (.inr (by simp only; omega)) _
    · have HX := Lib.hid hx
      clear hx
      go_wp2_with fail
      refine bodyPost_ret (v := .agg #[.int .i64 2, .int .i64 0, .int .i64 1, .string ⟨#[]⟩]) (by simp [results, Try.results23, go_sem, r0, r1, r2, r3]) rfl ?_
      rw [HF.out]
      refine ⟨by rw [HX.out]; rfl, ?_, ?_⟩
      · exact ((((HR.out.set (by simp only; omega) _).set (by simp only; omega) _).set (by simp only; omega) _).set (by simp only; omega) _).set (by simp only; omega) _
      · have hsz := HFr.out.size
        exact ((((HFr.out.setCell (.inr (by simp only; omega)) _).setCell (.inr (by simp only; omega)) _).setCell (.inr (by simp only; omega)) _).setCell (.inr (by simp only; omega)) _).setCell (.inr (by simp only; omega)) _
  · have HF := Lib.hid (show rRead ⟨kind, wd, n, s⟩ st = (⟨kind, wd, n, s⟩, st) by simp [rRead, c0, c1, c2, c3])
    have b0 : (kind == 0) = false := by simpa using c0
    have b1 : (kind == 1) = false := by simpa using c1
    have b2 : (kind == 2) = false := by simpa using c2
    have b3 : (kind == 3) = false := by simpa using c3
    have H := Lib.hid h
    clear h c0 c1 c2 c3
    go_enter Try.func23, Try.ntmps23
    go_wp2_with fail
    refine bodyPost_ret (v := .agg #[.int .i64 kind, .int .i64 wd, .int .i64 n, .string s]) (by simp [results, Try.results23, go_sem]) rfl ?_
    rw [HF.out]
    exact ⟨rfl, ((H.out.alloc _).alloc _), (((Fr.refl (only B) w).alloc _).alloc _)⟩
end Go.Proofs.Ytgbhmcepokpcaaa
