/-
  The library's sort by a wheel's order: a row of at most twelve numbers, by their times, those of one time by themselves.
-/
import Derived.Lib.Tables
import Derived.Test.YtnedmmjkhemgjaaRows
import Derived.Test.YtnedmmjkhemgjaaLib2
import Derived.Sort.LotA
import Derived.BigRegion
namespace Go.Proofs.Ytnedmmjkhemgjaa
open Go.RowKit

/-- The earlier goes first, of one time the smaller. -/
def ltT (T : Int → Int) (x y : Int) : Bool := decide (T x < T y) || (decide (T x = T y) && decide (x < y))

theorem ltT_iff (T : Int → Int) (x y : Int) : ltT T x y = true ↔ T x < T y ∨ (T x = T y ∧ x < y) := by simp [ltT]
theorem ltT_not (T : Int → Int) (x y : Int) : ltT T x y = false ↔ ¬ (T x < T y ∨ (T x = T y ∧ x < y)) := by rw [← ltT_iff]; simp

theorem ltT_swo (T : Int → Int) : Sort.SWO (ltT T) where
  irrefl x := by rw [ltT_not]; omega
  trans x y z h1 h2 := by rw [ltT_iff] at *; omega
  ntrans x y z h1 h2 := by rw [ltT_not] at *; omega

theorem ltT_total (T : Int → Int) (x y : Int) (h1 : ltT T x y = false) (h2 : ltT T y x = false) : x = y := by rw [ltT_not] at *; omega

/-- What the order answers. -/
def cfT (T : Int → Int) (x y : Int) : Int := if ltT T x y then -1 else if ltT T y x then 1 else 0

theorem cfT_lt (T : Int → Int) (x y : Int) : (cfT T x y < 0) ↔ ltT T x y = true := by
  unfold cfT
  cases h : ltT T x y <;> simp
  split <;> omega

theorem ins_go (lt : Int → Int → Bool) (j : Nat) (d : Array Int) (h : lt d[j + 1]! d[j]! = true) : Sort.insInner lt 0 (j + 1) d = Sort.insInner lt 0 j (Sort.swp d (j + 1) j) := by
  rw [Sort.insInner]; simp [h]
theorem ins_zero (lt : Int → Int → Bool) (d : Array Int) : Sort.insInner lt 0 0 d = d := by rw [Sort.insInner]
theorem ins_stop (lt : Int → Int → Bool) (j : Nat) (d : Array Int) (h : lt d[j + 1]! d[j]! = false) : Sort.insInner lt 0 (j + 1) d = d := by
  rw [Sort.insInner]; simp [h]
theorem outer_go (lt : Int → Int → Bool) (b i : Nat) (d : Array Int) (h : i < b) : Sort.insOuter lt 0 b i d = Sort.insOuter lt 0 b (i + 1) (Sort.insInner lt 0 i d) := by rw [Sort.insOuter, if_pos h]
theorem outer_stop (lt : Int → Int → Bool) (b i : Nat) (d : Array Int) (h : ¬ i < b) : Sort.insOuter lt 0 b i d = d := by rw [Sort.insOuter, if_neg h]

/-- A wheel's order, asked of any two of these in any world in which only the block g was written. -/
def Orders (w : World) (g : Nat) (b : Nat) (T : Int → Int) (ks : List Int) : Prop :=
  ∀ (w' : World), Keeps (fun k => k = g) w w' → ∀ x y, x ∈ ks → y ∈ ks → Calls Try.prog 19 #[.pointer (some ⟨b, 0, none⟩), .int .i64 x, .int .i64 y] w' fun e w'' => e = .returned (.int .i64 (cfT T x y)) ∧ ∃ q, w'' = w'.drewN q

theorem mem_perm {d dk : Array Int} (h : Sort.PermIn 0 d.size d dk) {j : Nat} (hj : j < d.size) : dk[j]! ∈ d.toList := by
  have hs := h.1
  have hp := h.2.2
  rw [← hs] at hp
  simp only [Array.extract_size] at hp
  have e : d.extract 0 dk.size = d := by rw [hs]; simp
  rw [e] at hp
  rw [← hp.mem_iff]
  rw [getElem!_pos dk j (by omega)]
  simp

theorem own_cellA {w : World} {g cap n : Nat} {dk : Array Int} (ho : w.ownsRow 0 3 1 (.slice (some ⟨g, 0, none⟩) n cap) n (dk.toList.map (Value.int .i64))) (hn : n = dk.size) {j : Nat} (hj : j < dk.size) : w.cell? ⟨g, j, none⟩ = some (.int .i64 dk[j]!) := by
  subst hn
  rw [ho.cellAt j (by omega), getElem!_pos dk j hj]
  simp [hj]

set_option maxHeartbeats 4000000 in
set_option maxRecDepth 100000 in
theorem insort {w : World} {g cap b : Nat} {d : Array Int} {T : Int → Int} (ho : w.ownsRow 0 3 1 (.slice (some ⟨g, 0, none⟩) d.size cap) d.size (d.toList.map (Value.int .i64))) (hd : d.size ≤ 12) (hc : Orders w g b T d.toList) :
    Calls Try.prog 24 #[.slice (some ⟨g, 0, none⟩) d.size cap, .int .i64 0, .int .i64 d.size, .func (.func 19) #[.pointer (some ⟨b, 0, none⟩)] #[]] w fun e w' =>
      e = .returned (.tuple #[]) ∧ w'.ownsRow 0 3 1 (.slice (some ⟨g, 0, none⟩) d.size cap) d.size ((Sort.insertionSort (ltT T) d 0 d.size).toList.map (Value.int .i64)) ∧ Keeps (fun k => k = g) w w' := by
  obtain ⟨n, hn⟩ : ∃ n, d.size = n := ⟨_, rfl⟩
  have HN := hid hn
  have HO := hid ho
  have HC := hid hc
  have HP := hid (Sort.permIn_refl d 0 n)
  rw [hn] at HO hd ⊢
  clear ho hc hn
  go_enter Try.func24, Try.ntmps24
  go_wp2_with fail
  go_loopw [8] (fun v8 wr => ∃ (i : Nat) (dk : Array Int), 1 ≤ i ∧ i ≤ n + 1 ∧ v8 = .int .i64 i ∧ Hid (Sort.PermIn 0 n d dk) ∧ Hid (wr.ownsRow 0 3 1 (.slice (some ⟨g, 0, none⟩) n cap) n (dk.toList.map (Value.int .i64))) ∧ Hid (Keeps (fun k => k = g) w wr) ∧
    Hid (Sort.insOuter (ltT T) 0 n i dk = Sort.insOuter (ltT T) 0 n 1 d)) (fun v8 _ => n + 1 - (intOf v8).toNat)
  case atStart => exact ⟨1, d, by omega, by omega, rfl, HP, HO, hid (Keeps.refl _ _), hid rfl⟩
  case round =>
    obtain ⟨i, dk, hi1, hin, rfl, HPk, HOk, HKk, HIk⟩ := hrel
    clear HP HO
    by_cases hlt : i < n
    · go_wp2_with fail
      go_loopw [9] (fun v9 wr => ∃ (j : Nat) (dj : Array Int), j ≤ i ∧ v9 = .int .i64 j ∧ Hid (Sort.PermIn 0 n d dj) ∧ Hid (wr.ownsRow 0 3 1 (.slice (some ⟨g, 0, none⟩) n cap) n (dj.toList.map (Value.int .i64))) ∧ Hid (Keeps (fun k => k = g) w wr) ∧
        Hid (Sort.insInner (ltT T) 0 j dj = Sort.insInner (ltT T) 0 i dk)) (fun v9 _ => (intOf v9).toNat)
      case atStart => exact ⟨i, dk, Nat.le_refl _, rfl, HPk, HOk, HKk, hid rfl⟩
      case round =>
        obtain ⟨j, dj, hji, rfl, HPj, HOj, HKj, HIj⟩ := hrel
        have hsj : dj.size = n := by rw [HPj.out.1, HN.out]
        have out : Sort.insInner (ltT T) 0 j dj = dj → Hid (Sort.insOuter (ltT T) 0 n (i + 1) dj = Sort.insOuter (ltT T) 0 n 1 d) := fun hs => hid (by
          rw [← HIk.out, outer_go _ _ _ _ hlt, ← HIj.out, hs])
        have OUT := hid out
        have HSJ := hid hsj
        clear out hsj
        rcases j with _ | j
        · have OUT2 := OUT.out (ins_zero _ _)
          clear OUT
          go_wp2_with fail
          go_quiet (fail)
          go_wp2_with fail
          go_roundw
          case rel => exact ⟨i + 1, dj, by omega, by omega, by go_num, HPj, hid (own_drewN HOj.out _), hid (HKj.out.drewN _), OUT2⟩
          case measure => simp [intOf]; omega
        · have cj := own_cellA HOj.out HSJ.out.symm (j := j + 1) (by rw [HSJ.out]; omega)
          have cp := own_cellA HOj.out HSJ.out.symm (j := j) (by rw [HSJ.out]; omega)
          have fj := HOj.out.frozenAt (j + 1)
          have fp := HOj.out.frozenAt j
          have mj := mem_perm (by rw [HN.out]; exact HPj.out) (j := j + 1) (by rw [HN.out]; omega)
          have mp := mem_perm (by rw [HN.out]; exact HPj.out) (j := j) (by rw [HN.out]; omega)
          have HS2 : Hid (∀ m, Calls Try.prog 19 #[.pointer (some ⟨b, 0, none⟩), .int .i64 dj[j + 1]!, .int .i64 dj[j]!] (wr.drewN m) fun e w'' => e = .returned (.int .i64 (cfT T dj[j + 1]! dj[j]!)) ∧ ∃ q, w'' = (wr.drewN m).drewN q) := hid (fun m => HC.out _ (HKj.out.drewN m) _ _ mj mp)
          obtain ⟨xj, hxj⟩ : ∃ x, dj[j + 1]! = x := ⟨_, rfl⟩
          obtain ⟨xp, hxp⟩ : ∃ x, dj[j]! = x := ⟨_, rfl⟩
          rw [hxj, hxp] at HS2
          rw [hxj] at cj
          rw [hxp] at cp
          have hcf := cfT_lt T xj xp
          obtain ⟨c, hcc⟩ : ∃ c, cfT T xj xp = c := ⟨_, rfl⟩
          rw [hcc] at HS2 hcf
          have HXJ := hid hxj
          have HXP := hid hxp
          have HCF := hid hcf
          clear mj mp hxj hxp hcc hcf
          by_cases hneg : c < 0
          · have hd1 : decide (c < 0) = true := by simpa using hneg
            go_wp2_with fail
            go_quiet ((go_at_call 19; exact Calls.quiet_of (HS2.out _)))
            go_wp2_with fail
            go_region
            all_goals
              go_wp2
              go_roundw
              case rel =>
                refine ⟨j, Sort.swp dj (j + 1) j, by omega, by go_num, hid (Sort.permIn_trans _ _ _ _ _ HPj.out (Sort.swp_permIn dj 0 n (j + 1) j (by omega) (by omega) (by omega) (by omega) (by rw [HSJ.out]; exact Nat.le_refl _))), hid ?_, hid ?_, hid ?_⟩
                · have h1 := (((own_drewN HOj.out (nq + 1)).stored (j + 1) (.int .i64 xp)).1.stored j (.int .i64 xj)).1
                  rw [← List.map_set, ← List.map_set] at h1
                  unfold Sort.swp
                  rw [Array.toList_setIfInBounds, Array.toList_setIfInBounds, HXJ.out, HXP.out]
                  exact h1
                · exact ((HKj.out.drewN _).setCell (p := ⟨g, j + 1, none⟩) (Or.inr rfl) _).setCell (p := ⟨g, j, none⟩) (Or.inr rfl) _
                · rw [← HIj.out, ins_go _ _ _ (by rw [HXJ.out, HXP.out]; exact HCF.out.1 hneg)]
              case measure => simp [intOf]
          · have hd1 : decide (c < 0) = false := by simpa using hneg
            go_wp2_with fail
            go_quiet ((go_at_call 19; exact Calls.quiet_of (HS2.out _)))
            go_wp2_with fail
            go_roundw
            case rel =>
              refine ⟨i + 1, dj, by omega, by omega, by go_num, HPj, hid (own_drewN HOj.out _), hid (HKj.out.drewN _), OUT.out (ins_stop _ _ _ ?_)⟩
              rw [HXJ.out, HXP.out]
              have h1 := HCF.out
              rcases h : ltT T xj xp with _ | _
              · rfl
              · have h2 := h1.2 h; omega
            case measure => simp [intOf]; omega
    · have hfin := HIk.out
      rw [outer_stop _ _ _ _ hlt] at hfin
      have HF := hid hfin
      clear hfin
      go_wp2_with fail
      go_end0
      refine ⟨rfl, ?_, HKk.out⟩
      unfold Sort.insertionSort
      rw [← HF.out]
      exact HOk.out

set_option maxHeartbeats 4000000 in
set_option maxRecDepth 100000 in
/-- The library's length of a number: some number. -/
theorem len64_any (n : Int) (w : World) (h0 : 0 ≤ n) (h1 : n ≤ 255) : Calls Try.prog 33 #[.int .u64 n] w fun e w' => (∃ l : Int, e = .returned (.int .i64 l)) ∧ w = w' := by
  have e1 : decide ((4294967296 : Int) ≤ n) = false := by simp; omega
  have e2 : decide ((65536 : Int) ≤ n) = false := by simp; omega
  have e3 : decide ((256 : Int) ≤ n) = false := by simp; omega
  have e4 : IntKind.u8.wrap n = n := by rw [IntKind.wrap_u8]; omega
  go_enter Try.func33, Try.ntmps33
  go_wp2
  go_ret
  exact ⟨⟨_, rfl⟩, rfl⟩

set_option maxRecDepth 100000 in
theorem len_any (n : Int) (w : World) (h0 : 0 ≤ n) (h1 : n ≤ 255) : Calls Try.prog 21 #[.int .u64 n] w fun e w' => (∃ l : Int, e = .returned (.int .i64 l)) ∧ w = w' := by
  have hl := len64_any n w h0 h1
  go_enter Try.func21, Try.ntmps21
  go_wp2_with (go_at_call 33; refine hl.mono ?_; rintro e w' ⟨⟨l, rfl⟩, rfl⟩)
  go_ret
  exact ⟨⟨_, rfl⟩, rfl⟩

set_option maxHeartbeats 4000000 in
set_option maxRecDepth 100000 in
theorem pdq_small {w : World} {g cap b : Nat} {d : Array Int} {T : Int → Int} (l : Int) (ho : w.ownsRow 0 3 1 (.slice (some ⟨g, 0, none⟩) d.size cap) d.size (d.toList.map (Value.int .i64))) (hd : d.size ≤ 12) (hc : Orders w g b T d.toList) :
    Calls Try.prog 20 #[.slice (some ⟨g, 0, none⟩) d.size cap, .int .i64 0, .int .i64 d.size, .int .i64 l, .func (.func 19) #[.pointer (some ⟨b, 0, none⟩)] #[]] w fun e w' =>
      e = .returned (.tuple #[]) ∧ w'.ownsRow 0 3 1 (.slice (some ⟨g, 0, none⟩) d.size cap) d.size ((Sort.insertionSort (ltT T) d 0 d.size).toList.map (Value.int .i64)) ∧ Keeps (fun k => k = g) w w' := by
  have HI := hid (insort ho hd hc)
  obtain ⟨n, hn⟩ : ∃ n, d.size = n := ⟨_, rfl⟩
  rw [hn] at HI hd ⊢
  clear ho hc hn
  go_enter Try.func20, Try.ntmps20
  go_wp2_with fail
  go_loop [1, 2] (fun v1 v2 => v1 = .int .i64 0 ∧ v2 = .int .i64 n) (fun _ _ => 0)
  case atStart => exact ⟨rfl, rfl⟩
  case round =>
    obtain ⟨rfl, rfl⟩ := hrel
    go_wp2_with (go_at_call 24; refine HI.out.mono ?_; rintro e w' ⟨rfl, ho, hk⟩)
    refine bodyPost_ret (results_none rfl _ _ _) rfl ?_
    exact ⟨rfl, ho, hk⟩

set_option maxHeartbeats 4000000 in
set_option maxRecDepth 100000 in
/-- The library's sort of at most twelve. -/
theorem sort_small {w : World} {g cap b : Nat} {d : Array Int} {T : Int → Int} (ho : w.ownsRow 0 3 1 (.slice (some ⟨g, 0, none⟩) d.size cap) d.size (d.toList.map (Value.int .i64))) (hd : d.size ≤ 12) (hc : Orders w g b T d.toList) :
    Calls Try.prog 18 #[.slice (some ⟨g, 0, none⟩) d.size cap, .func (.func 19) #[.pointer (some ⟨b, 0, none⟩)] #[]] w fun e w' =>
      e = .returned (.tuple #[]) ∧ w'.ownsRow 0 3 1 (.slice (some ⟨g, 0, none⟩) d.size cap) d.size ((Sort.insertionSort (ltT T) d 0 d.size).toList.map (Value.int .i64)) ∧ Keeps (fun k => k = g) w w' := by
  have HO := hid ho
  have HC := hid hc
  have HI : Hid (∀ l : Int, ∀ q : Nat, Calls Try.prog 20 #[.slice (some ⟨g, 0, none⟩) d.size cap, .int .i64 0, .int .i64 d.size, .int .i64 l, .func (.func 19) #[.pointer (some ⟨b, 0, none⟩)] #[]] (w.drewN q) fun e w' =>
      e = .returned (.tuple #[]) ∧ w'.ownsRow 0 3 1 (.slice (some ⟨g, 0, none⟩) d.size cap) d.size ((Sort.insertionSort (ltT T) d 0 d.size).toList.map (Value.int .i64)) ∧ Keeps (fun k => k = g) w w') := hid (fun l q => by
    refine @Calls.mono _ _ _ _ _ _ (@pdq_small (w.drewN q) g cap b d T l (own_drewN ho q) hd ?_) ?_
    · intro w' hk x y hx hy
      exact hc w' (((Keeps.refl (fun k => k = g) w).drewN q).trans hk) x y hx hy
    · rintro e w' ⟨h1, h2, h3⟩
      exact ⟨h1, h2, ((Keeps.refl (fun k => k = g) w).drewN q).trans h3⟩)
  have HL := hid (len_any d.size)
  obtain ⟨n, hn⟩ : ∃ n, d.size = n := ⟨_, rfl⟩
  rw [hn] at HI HL hd ⊢
  clear ho hc hn
  go_enter Try.func18, Try.ntmps18
  go_wp2_with first
    | (go_at_call 21; refine (HL.out _ (by omega) (by omega)).mono ?_; rintro e w' ⟨⟨l, rfl⟩, rfl⟩)
    | (go_at_call 20; (first | refine (HI.out _ 0).mono ?_ | refine (HI.out _ _).mono ?_); rintro e w' ⟨rfl, ho, hk⟩)
  go_end0
  exact ⟨rfl, ho, hk⟩

end Go.Proofs.Ytnedmmjkhemgjaa
