/- In whichever pieces the bytes of a stream come, the same is told, as many are lost, as many wait. No conditions. -/
import Derived.Test.YthfjihpfcollfaaRows
import Derived.Test.YthfjihpfcollfaaArgs
import Derived.Test.YthfjihpfcollfaaFr12
import Derived.ProofKit
import Derived.OpenShut
namespace Go.Proofs.Ythfjihpfcollfaa.framePieces
open Go.ChangeShapes Go.WideShapes Go.ChangeAt Go.RowKit
open Go.ChangeMaps (open_string shut_string)
set_option linter.unusedVariables false

set_option maxHeartbeats 8000000 in
set_option maxRecDepth 100000 in
theorem walk (w : World) (s : Option Addr) (cap : Nat) (l : List Prt) (hs : Sl w 4 (.slice s l.length cap) l.length (l.flatMap encP)) (hg : ∀ y ∈ l, goodP w y) (s1 : Option Addr) (cap1 : Nat) (p1 : List Int) (hp1 : Sl w 1 (.slice s1 p1.length cap1) p1.length (p1.map (Value.int .u8))) (hb1 : ∀ n ∈ p1, (Lit.int .u8 n).wf = true) :
    Calls Try.prog 5 #[.slice s l.length cap, .slice s1 p1.length cap1] w fun e w' => e = .returned (.bool true) ∧ Below w.heap.size w w' := by
  have HS := hid hs
  have HG := hid hg
  have HP0 : Hid (SlB w (.slice s1 p1.length cap1) p1) := hid hp1
  have HB0 : Hid (Bytes p1) := hid (fun x hx => bounds_u8 (hb1 x hx))
  clear hs hg hp1 hb1
  by_cases hl : l.length ≤ 12
  · by_cases h60 : 60 < p1.length
    · have hd1 : decide ((p1.length : Int) > 60) = true := by simp; omega
      have hd2 : decide ((60 : Int) < (p1.length : Int)) = true := by simp; omega
      go_enter Try.func5, Try.ntmps5
      go_wp2_with fail
      refine (told_true _).mono ?_
      rintro e w1 ⟨rfl, k1⟩
      have K1 := hid k1
      clear k1
      go_wp2_with fail
      refine (few_yes hl).mono ?_
      rintro e w' ⟨rfl, rfl⟩
      go_wp2_with fail
      refine (told_true _).mono ?_
      rintro e w2 ⟨rfl, k2⟩
      have K2 := hid (K1.out.trans k2)
      clear k2
      go_wp2_with fail
      go_ret
      exact ⟨rfl, K2.out.toBelow⟩
    · have hd1 : decide ((p1.length : Int) > 60) = false := by simp; omega
      have hd2 : decide ((60 : Int) < (p1.length : Int)) = false := by simp; omega
      obtain ⟨i0, hi, hz0, hz1, hz2⟩ := info_parts info_bytes
      have HI := hid hi
      clear hi
      go_enter Try.func5, Try.ntmps5
      go_wp2_with fail
      refine (told_true _).mono ?_
      rintro e w1 ⟨rfl, k1⟩
      have K1 := hid k1
      clear k1
      go_wp2_with fail
      refine (few_yes hl).mono ?_
      rintro e w' ⟨rfl, rfl⟩
      go_wp2_with fail
      refine (stream_any (HS.out.keep K1.out (fun _ _ h => h)) (fun y hy => (HG.out y hy).keep K1.out) hl).mono ?_
      rintro e w2 ⟨q, v2, rfl, HT⟩
      obtain ⟨a2, c2, rfl⟩ := own_any HT.out.own
      have hql := HT.out.len
      have HX : Hid (w2.ownsRow 0 5 1 (.slice a2 q.length c2) q.length (q.map (Value.int .u8))) := hid HT.out.own
      have K2 := hid (K1.out.trans HT.out.keep)
      have HB := hid HT.out.byt
      have hq2 : q.length ≤ 444 := by omega
      clear HT hql
      go_wp2_with fail
      refine new_any.mono ?_
      rintro e w3 ⟨Fa, rfl, ha3, k3, fa3⟩
      have HA3 := hid (OwnS.made K2.out ha3 k3 fa3)
      have HX3 := hid (k3.own HX.out (fun _ _ h => h))
      have HFA := hid fa3
      clear ha3 fa3 k3
      go_wp2_with fail
      refine new_any.mono ?_
      rintro e w4 ⟨Fb, rfl, hb4, k4, fb4⟩
      have HB4 := hid (OwnS.made HA3.out.keep hb4 k4 fb4)
      have HA4 := hid (HA3.out.calm k4)
      have HX4 := hid (k4.own HX3.out (fun _ _ h => h))
      have HFB := hid fb4
      have hsa := lt_of_block HA3.out.sc.choose_spec.blk
      have hsb := lt_of_block HB4.out.sc.choose_spec.blk
      clear hb4 fb4 k4
      have hfeed := feed_any HA4.out.sc (p := q) (Sl.ofOwn HX4.out) HB.out (by simp; omega) (by omega)
      rw [List.nil_append] at hfeed
      have HFE := hid hfeed
      clear hfeed
      go_wp2_with fail
      refine HFE.out.mono ?_
      rintro e w5 ⟨tv, rfl, hf⟩
      obtain ⟨vs, Fa', hsc, hu, ho5, hr5, n5, m5, x5, y5, z5⟩ := HA4.out.fed hf
      rw [Nat.zero_add] at hsc
      obtain ⟨a5, c5, rfl⟩ := own_any ho5
      obtain ⟨O, hO⟩ : ∃ O, PcO (.slice a2 q.length c2) Fa' (.slice a5 vs.length c5) vs = O := ⟨_, rfl⟩
      have hx2 := own_lt HX.out
      have hXa : ∀ k, (Value.slice a2 q.length c2).ownBlock = some k → ¬ Fa k := fun k hk hF => by
        have h1 := HFA.out k hF
        have h2 := hx2 k hk
        omega
      have hx5 := hu.keeps.own HX4.out hXa
      have hFbFa : ∀ k, Fb k → ¬ Fa k := fun k hk hF => by
        have h1 := HFA.out k hF
        have h2 := HFB.out k hk
        omega
      have HPF : Hid (PcF w5 w2.heap.size q (.slice a2 q.length c2) Fa' (scan q) (.slice a5 vs.length c5) vs) := hid ⟨hx5, hsc.sc, ho5, hr5, fun k hk => by
        rcases hk with h | h | h | ⟨u, hu', h⟩
        · exact own_lt hx5 k h
        · exact z5.2.1 k h
        · exact (n5 k h).2
        · exact (m5 u hu' k h).2⟩
      have HPL : Hid (PcL w w5 w5 w3.heap.size q O Fb 0 (.slice none 0 0) []) := hid (by
        have e0 : scan (q.take 0) = ⟨[], 0, []⟩ := scan_nil
        refine ⟨?_, Nat.zero_le _, World.ownsRow_nil _ _ _ _, by rw [e0]; trivial, Keeps.refl _ _, fun k hk h => ?_, fun k hk => by simp [Value.ownBlock] at hk, fun k hk => by simp [Value.ownBlock] at hk, fun k hk => by simp [Value.ownBlock] at hk, fun u hu => by simp at hu, fun u hu => by simp at hu, fun u hu => by simp at hu⟩
        · rw [e0]
          exact ⟨HB4.out.sc.keep hu.keeps hFbFa, HB4.out.new, hsc.keep⟩
        · have h1 := HFB.out k hk
          have h2 := hx2
          rw [← hO] at h
          rcases h with h | h | h | ⟨u, hu', h⟩
          · have := h2 k h
            omega
          · rcases hu.fresh k h with h' | h'
            · exact hFbFa k hk h'
            · omega
          · have := (n5 k h).1
            omega
          · have := (m5 u hu' k h).1
            omega)
      have HO := hid hO
      have hsc5 := scan_counts q
      have hlostq : (scan q).lost ≤ 444 := by omega
      clear hf hsc hu ho5 hr5 n5 m5 x5 y5 z5 hx2 hXa hx5 hFbFa hO HFE HA3 HA4 HX HX3 HX4 HB4 HFA HFB hsa hsb hsc5
      go_wp2_with fail
      go_loopw [9, 10, 11] (fun v9 v10 v11 wr => ∃ i k : Nat, ∃ Fb gs, i ≤ p1.length ∧ v11 = .int .i64 i ∧ v10 = .int .i64 k ∧ k ≤ q.length ∧ Hid (PcL w w5 wr w3.heap.size q O Fb k v9 gs)) (fun _ _ v11 _ => p1.length - (intOf v11).toNat)
      case atStart => exact ⟨0, 0, Fb, [], Nat.zero_le _, rfl, rfl, Nat.zero_le _, HPL⟩
      case round =>
        clear HPL Fb K1
        obtain ⟨i, k, Fb, gs, hi, rfl, rfl, hk, HPL⟩ := hrel
        have HPR : Hid (PcF _ w2.heap.size q (.slice a2 q.length c2) Fa' (scan q) (.slice a5 vs.length c5) vs) := hid (HPF.out.keep (by rw [HO.out]; exact HPL.out.keep))
        have hlow : ∀ k, O k → k < w5.heap.size := by rw [← HO.out]; exact HPF.out.low
        have HLOW := hid hlow
        have hsck := scan_counts (q.take k)
        have hrk := scan_rest_len (q.take k)
        have hgl := HPL.out.grd.len
        have hsl := sizes_len (scan (q.take k)).out
        rw [List.length_take] at hsck
        have hlk : (scan (q.take k)).lost ≤ 444 := by omega
        have hgs : gs.length ≤ 444 := by omega
        obtain ⟨a9, c9, rfl⟩ := own_any HPL.out.got
        clear hlow hsck hgl hsl
        by_cases hlt : i < p1.length ∧ k < q.length
        · obtain ⟨hlt1, hlt2⟩ := hlt
          obtain ⟨g1, off1, rfl, _, hc1⟩ := SlB.cellAt HP0.out hlt1
          have hcc := HPL.out.b.keep.cell (fun h => h) hc1
          have hbb := HB0.out p1[i] (List.getElem_mem hlt1)
          obtain ⟨x, hx⟩ : ∃ x, p1[i] = x := ⟨_, rfl⟩
          rw [hx] at hcc hbb
          obtain ⟨d, hd, hd9⟩ : ∃ d : Nat, x % 9 = (d : Int) ∧ d < 9 := ⟨(x % 9).toNat, by omega, by omega⟩
          have ht1 : decide ((i : Int) < (p1.length : Int)) = true := decide_eq_true (by omega)
          have ht2 : decide ((k : Int) < (q.length : Int)) = true := decide_eq_true (by omega)
          clear hx hc1
          by_cases hn : q.length < k + d
          · have ht3 : decide ((k : Int) + (d : Int) > (q.length : Int)) = true := decide_eq_true (by omega)
            have ht4 : decide ((q.length : Int) < (k : Int) + (d : Int)) = true := decide_eq_true (by omega)
            obtain ⟨L7, hL7⟩ : ∃ L7, ((q.drop k).take (q.length - k)).length = L7 := ⟨_, rfl⟩
            obtain ⟨a7, c7, hs7, hr7, _⟩ := (by
              obtain ⟨a7, c7, h1, h2, h3⟩ := piece (Sl.ofOwn HPR.out.xr) k (q.length) (by omega) (by omega)
              have e7 : (q.length) - k = L7 := by rw [← hL7, List.length_take, List.length_drop]; omega
              rw [e7] at h1 h2 h3 hL7
              exact ⟨a7, c7, by rw [e7]; unfold SlB; rw [hL7]; exact h1, h2, trivial⟩ : ∃ a7 c7, SlB _ (.slice a7 L7 c7) ((q.drop k).take ((q.length) - k)) ∧ (∀ (w : World) (z y : Int), z = (k : Nat) → y = ((q.length : Nat) : Int) → (Instr.slice 26 (.slice a2 q.length c2) (some (.int .i64 z)) (some (.int .i64 y)) none).run Try.prog w = .ok (.slice a7 L7 c7) w) ∧ True)
            have hr8 : ∀ (w : World), (Instr.slice 26 (.slice a2 q.length c2) (some (.int .i64 (k : Int))) (some (.int .i64 ((q.length : Int)))) none).run Try.prog w = .ok (.slice a7 L7 c7) w := fun w => hr7 w (k : Int) ((q.length : Int)) rfl (by omega)
            have hfeed := feed_any HPL.out.b.sc (p := (q.drop k).take ((q.length) - k)) hs7 ((HB.out.drop k).take _) (by rw [List.length_take, List.length_drop]; omega) (by omega)
            obtain ⟨S, hS⟩ : ∃ S, scan ((scan (q.take k)).rest ++ (q.drop k).take ((q.length) - k)) = S := ⟨_, rfl⟩
            rw [hS] at hfeed
            have HFE := hid hfeed
            have HSS := hid hS
            clear hs7 hr7 hfeed hS hL7
            have HKK := hid hk
            clear hk
            go_wp2_with fail
            refine HFE.out.mono ?_
            have hk := HKK.out
            rintro e w6 ⟨tu, rfl, hf⟩
            obtain ⟨us, F', hsc, hu, ho6, hr6, n6, m6, x6, y6, z6⟩ := HPL.out.b.fed hf
            obtain ⟨a6, c6, rfl⟩ := own_any ho6
            have hus : us.length ≤ 2000 := by
              have h1 := hr6.len
              have h2 := scan_counts ((scan (q.take k)).rest ++ (q.drop k).take ((q.length) - k))
              rw [HSS.out, List.length_append, List.length_take, List.length_drop] at h2
              have h3 := sizes_len S.out
              omega
            have HG6 : Hid (w6.ownsRow 0 26 1 (.slice a9 gs.length c9) gs.length gs) := hid (hu.keeps.own HPL.out.got HPL.out.gb)
            have HS6 := hid (Sl.ofOwn ho6)
            have HONE := hid hr6.one
            have HPS : Hid (∀ w7 v', w7.ownsRow 0 26 1 v' (gs.length + us.length) (gs ++ us) → Keeps (Bl (.slice a9 gs.length c9)) w6 w7 → (∀ k, v'.ownBlock = some k → (Value.slice a9 gs.length c9).ownBlock = some k ∨ w6.heap.size ≤ k) → PcL w w5 w7 w3.heap.size q O F' ((q.length)) v' (gs ++ us)) :=
              hid (fun w7 v' ho k7 hb => HPL.out.step HLOW.out (by omega) (by omega) HSS.out hsc hu hr6 m6 y6 z6.2.1 ho k7 hb)
            clear hf hsc hu ho6 hr6 n6 m6 x6 y6 z6 HFE
            go_wp2_with (at_builtin; refine wpl_append rfl _ _ 25 rfl 26 i0 (.slice none 0 0) 1 24 Try.underlying25 HI.out hz0 hz1 hz2 rfl (by decide) _ _ _ _ _ _ rfl rfl HG6.out HS6.out HONE.out ?c3 ?c4 ?_)
            case c3 => unfold maxLen; omega
            case c4 => omega
            intro v8 w7 ho8 k8 hb8
            have hp7 := HPS.out w7 v8 ho8 k8 hb8
            obtain ⟨R, hR⟩ : ∃ R, gs ++ us = R := ⟨_, rfl⟩
            rw [hR] at hp7
            obtain ⟨a8, c8, rfl⟩ := own_any hp7.got
            have HP7 := hid hp7
            clear ho8 k8 hb8 HPS hp7 hR
            go_wp2_with fail
            go_roundw
            case rel => exact ⟨i + 1, q.length, F', R, by omega, by go_num, rfl, by omega, HP7⟩
            case measure => simp [intOf]; omega
          · have ht3 : decide ((k : Int) + (d : Int) > (q.length : Int)) = false := decide_eq_false (by omega)
            have ht4 : decide ((q.length : Int) < (k : Int) + (d : Int)) = false := decide_eq_false (by omega)
            obtain ⟨L7, hL7⟩ : ∃ L7, ((q.drop k).take (k + d - k)).length = L7 := ⟨_, rfl⟩
            obtain ⟨a7, c7, hs7, hr7, _⟩ := (by
              obtain ⟨a7, c7, h1, h2, h3⟩ := piece (Sl.ofOwn HPR.out.xr) k (k + d) (by omega) (by omega)
              have e7 : (k + d) - k = L7 := by rw [← hL7, List.length_take, List.length_drop]; omega
              rw [e7] at h1 h2 h3 hL7
              exact ⟨a7, c7, by rw [e7]; unfold SlB; rw [hL7]; exact h1, h2, trivial⟩ : ∃ a7 c7, SlB _ (.slice a7 L7 c7) ((q.drop k).take ((k + d) - k)) ∧ (∀ (w : World) (z y : Int), z = (k : Nat) → y = ((k + d : Nat) : Int) → (Instr.slice 26 (.slice a2 q.length c2) (some (.int .i64 z)) (some (.int .i64 y)) none).run Try.prog w = .ok (.slice a7 L7 c7) w) ∧ True)
            have hr8 : ∀ (w : World), (Instr.slice 26 (.slice a2 q.length c2) (some (.int .i64 (k : Int))) (some (.int .i64 ((k : Int) + (d : Int)))) none).run Try.prog w = .ok (.slice a7 L7 c7) w := fun w => hr7 w (k : Int) ((k : Int) + (d : Int)) rfl (by omega)
            have hfeed := feed_any HPL.out.b.sc (p := (q.drop k).take ((k + d) - k)) hs7 ((HB.out.drop k).take _) (by rw [List.length_take, List.length_drop]; omega) (by omega)
            obtain ⟨S, hS⟩ : ∃ S, scan ((scan (q.take k)).rest ++ (q.drop k).take ((k + d) - k)) = S := ⟨_, rfl⟩
            rw [hS] at hfeed
            have HFE := hid hfeed
            have HSS := hid hS
            clear hs7 hr7 hfeed hS hL7
            have HKK := hid hk
            clear hk
            go_wp2_with fail
            refine HFE.out.mono ?_
            have hk := HKK.out
            rintro e w6 ⟨tu, rfl, hf⟩
            obtain ⟨us, F', hsc, hu, ho6, hr6, n6, m6, x6, y6, z6⟩ := HPL.out.b.fed hf
            obtain ⟨a6, c6, rfl⟩ := own_any ho6
            have hus : us.length ≤ 2000 := by
              have h1 := hr6.len
              have h2 := scan_counts ((scan (q.take k)).rest ++ (q.drop k).take ((k + d) - k))
              rw [HSS.out, List.length_append, List.length_take, List.length_drop] at h2
              have h3 := sizes_len S.out
              omega
            have HG6 : Hid (w6.ownsRow 0 26 1 (.slice a9 gs.length c9) gs.length gs) := hid (hu.keeps.own HPL.out.got HPL.out.gb)
            have HS6 := hid (Sl.ofOwn ho6)
            have HONE := hid hr6.one
            have HPS : Hid (∀ w7 v', w7.ownsRow 0 26 1 v' (gs.length + us.length) (gs ++ us) → Keeps (Bl (.slice a9 gs.length c9)) w6 w7 → (∀ k, v'.ownBlock = some k → (Value.slice a9 gs.length c9).ownBlock = some k ∨ w6.heap.size ≤ k) → PcL w w5 w7 w3.heap.size q O F' ((k + d)) v' (gs ++ us)) :=
              hid (fun w7 v' ho k7 hb => HPL.out.step HLOW.out (by omega) (by omega) HSS.out hsc hu hr6 m6 y6 z6.2.1 ho k7 hb)
            clear hf hsc hu ho6 hr6 n6 m6 x6 y6 z6 HFE
            go_wp2_with (at_builtin; refine wpl_append rfl _ _ 25 rfl 26 i0 (.slice none 0 0) 1 24 Try.underlying25 HI.out hz0 hz1 hz2 rfl (by decide) _ _ _ _ _ _ rfl rfl HG6.out HS6.out HONE.out ?c3 ?c4 ?_)
            case c3 => unfold maxLen; omega
            case c4 => omega
            intro v8 w7 ho8 k8 hb8
            have hp7 := HPS.out w7 v8 ho8 k8 hb8
            obtain ⟨R, hR⟩ : ∃ R, gs ++ us = R := ⟨_, rfl⟩
            rw [hR] at hp7
            obtain ⟨a8, c8, rfl⟩ := own_any hp7.got
            have HP7 := hid hp7
            clear ho8 k8 hb8 HPS hp7 hR
            go_wp2_with fail
            go_roundw
            case rel => exact ⟨i + 1, k + d, F', R, by omega, by go_num, by go_num, by omega, HP7⟩
            case measure => simp [intOf]; omega
        · have hcond : ¬ i < p1.length ∨ (i < p1.length ∧ ¬ k < q.length) := by
            by_cases h1 : i < p1.length
            · exact Or.inr ⟨h1, fun h => hlt ⟨h1, h⟩⟩
            · exact Or.inl h1
          clear hlt
          rcases hcond with hx1 | ⟨hx1, hx2⟩
          · skip
            obtain ⟨L7, hL7⟩ : ∃ L7, ((q.drop k).take (q.length - k)).length = L7 := ⟨_, rfl⟩
            obtain ⟨a7, c7, hs7, hr7, _⟩ := (by
              obtain ⟨a7, c7, h1, h2, h3⟩ := piece_from (Sl.ofOwn HPR.out.xr) k (by omega)
              have e7 : (q.drop k).take (q.length - k) = q.drop k := List.take_of_length_le (by rw [List.length_drop]; omega)
              rw [e7] at hL7
              rw [hL7] at h1 h2 h3
              exact ⟨a7, c7, by rw [e7]; exact h1, h2, trivial⟩ : ∃ a7 c7, SlB _ (.slice a7 L7 c7) ((q.drop k).take (q.length - k)) ∧ (∀ (w : World) (z : Int), z = (k : Nat) → (Instr.slice 26 (.slice a2 q.length c2) (some (.int .i64 z)) none none).run Try.prog w = .ok (.slice a7 L7 c7) w) ∧ True)
            have hr8 : ∀ (w : World), (Instr.slice 26 (.slice a2 q.length c2) (some (.int .i64 (k : Int))) none none).run Try.prog w = .ok (.slice a7 L7 c7) w := fun w => hr7 w (k : Int) rfl
            have hfeed := feed_any HPL.out.b.sc (p := (q.drop k).take (q.length - k)) hs7 ((HB.out.drop k).take _) (by rw [List.length_take, List.length_drop]; omega) (by omega)
            obtain ⟨S, hS⟩ : ∃ S, scan ((scan (q.take k)).rest ++ (q.drop k).take (q.length - k)) = S := ⟨_, rfl⟩
            rw [hS] at hfeed
            have HFE := hid hfeed
            have HSS := hid hS
            clear hs7 hr7 hfeed hS hL7
            have HKK := hid hk
            clear hk
            go_wp2_with fail
            refine HFE.out.mono ?_
            have hk := HKK.out
            rintro e w6 ⟨tu, rfl, hf⟩
            obtain ⟨us, F', hsc, hu, ho6, hr6, n6, m6, x6, y6, z6⟩ := HPL.out.b.fed hf
            obtain ⟨a6, c6, rfl⟩ := own_any ho6
            have hus : us.length ≤ 2000 := by
              have h1 := hr6.len
              have h2 := scan_counts ((scan (q.take k)).rest ++ (q.drop k).take (q.length - k))
              rw [HSS.out, List.length_append, List.length_take, List.length_drop] at h2
              have h3 := sizes_len S.out
              omega
            have HG6 : Hid (w6.ownsRow 0 26 1 (.slice a9 gs.length c9) gs.length gs) := hid (hu.keeps.own HPL.out.got HPL.out.gb)
            have HS6 := hid (Sl.ofOwn ho6)
            have HONE := hid hr6.one
            have HPS : Hid (∀ w7 v', w7.ownsRow 0 26 1 v' (gs.length + us.length) (gs ++ us) → Keeps (Bl (.slice a9 gs.length c9)) w6 w7 → (∀ k, v'.ownBlock = some k → (Value.slice a9 gs.length c9).ownBlock = some k ∨ w6.heap.size ≤ k) → PcL w w5 w7 w3.heap.size q O F' (q.length) v' (gs ++ us)) :=
              hid (fun w7 v' ho k7 hb => HPL.out.step HLOW.out (by omega) (by omega) HSS.out hsc hu hr6 m6 y6 z6.2.1 ho k7 hb)
            clear hf hsc hu ho6 hr6 n6 m6 x6 y6 z6 HFE
            go_wp2_with (at_builtin; refine wpl_append rfl _ _ 25 rfl 26 i0 (.slice none 0 0) 1 24 Try.underlying25 HI.out hz0 hz1 hz2 rfl (by decide) _ _ _ _ _ _ rfl rfl HG6.out HS6.out HONE.out ?c3 ?c4 ?_)
            case c3 => unfold maxLen; omega
            case c4 => omega
            intro v8 w7 ho8 k8 hb8
            have hp7 := HPS.out w7 v8 ho8 k8 hb8
            obtain ⟨R, hR⟩ : ∃ R, gs ++ us = R := ⟨_, rfl⟩
            rw [hR] at hp7
            obtain ⟨a8, c8, rfl⟩ := own_any hp7.got
            have HP7 := hid hp7
            clear ho8 k8 hb8 HPS hp7 hR
            go_wp2_with fail
            have e8 := List.take_length (l := q)
            have hpe : Hid (PcL w w5 w7 w3.heap.size q O F' q.length (.slice a8 R.length c8) R) := HP7
            have HPF7 : Hid (PcF w7 w2.heap.size q (.slice a2 q.length c2) Fa' (scan q) (.slice a5 vs.length c5) vs) := hid (HPF.out.keep (by rw [HO.out]; exact hpe.out.keep))
            have hrdw := HPF7.out.wrd
            have hrdg := hpe.out.grd
            have hbb := hpe.out.b
            rw [e8] at hrdg hbb
            have HBB := hid hbb
            refine (same_true (Sl.ofOwn HPF7.out.want) (Sl.ofOwn hpe.out.got) hrdw hrdg).mono ?_
            rintro e w8 ⟨rfl, k8⟩
            have HB8 := hid (HBB.out.calm k8)
            have HA8 := hid (HPF7.out.a.keep k8 (fun _ _ h => h))
            clear hrdw hrdg hbb k8 e8
            go_wp2_with fail
            refine (lost_any HA8.out).mono ?_
            rintro e w' ⟨rfl, rfl⟩
            go_wp2_with fail
            refine (lost_any HB8.out.sc).mono ?_
            rintro e w' ⟨rfl, rfl⟩
            go_wp2_with fail
            refine (held_any HA8.out).mono ?_
            rintro e w' ⟨rfl, rfl⟩
            go_wp2_with fail
            refine (held_any HB8.out.sc).mono ?_
            rintro e w' ⟨rfl, rfl⟩
            go_wp2_with fail
            go_ret
            exact ⟨rfl, HB8.out.keep.toBelow⟩
          · skip
            obtain ⟨L7, hL7⟩ : ∃ L7, ((q.drop k).take (q.length - k)).length = L7 := ⟨_, rfl⟩
            obtain ⟨a7, c7, hs7, hr7, _⟩ := (by
              obtain ⟨a7, c7, h1, h2, h3⟩ := piece_from (Sl.ofOwn HPR.out.xr) k (by omega)
              have e7 : (q.drop k).take (q.length - k) = q.drop k := List.take_of_length_le (by rw [List.length_drop]; omega)
              rw [e7] at hL7
              rw [hL7] at h1 h2 h3
              exact ⟨a7, c7, by rw [e7]; exact h1, h2, trivial⟩ : ∃ a7 c7, SlB _ (.slice a7 L7 c7) ((q.drop k).take (q.length - k)) ∧ (∀ (w : World) (z : Int), z = (k : Nat) → (Instr.slice 26 (.slice a2 q.length c2) (some (.int .i64 z)) none none).run Try.prog w = .ok (.slice a7 L7 c7) w) ∧ True)
            have hr8 : ∀ (w : World), (Instr.slice 26 (.slice a2 q.length c2) (some (.int .i64 (k : Int))) none none).run Try.prog w = .ok (.slice a7 L7 c7) w := fun w => hr7 w (k : Int) rfl
            have hfeed := feed_any HPL.out.b.sc (p := (q.drop k).take (q.length - k)) hs7 ((HB.out.drop k).take _) (by rw [List.length_take, List.length_drop]; omega) (by omega)
            obtain ⟨S, hS⟩ : ∃ S, scan ((scan (q.take k)).rest ++ (q.drop k).take (q.length - k)) = S := ⟨_, rfl⟩
            rw [hS] at hfeed
            have HFE := hid hfeed
            have HSS := hid hS
            clear hs7 hr7 hfeed hS hL7
            have HKK := hid hk
            clear hk
            go_wp2_with fail
            refine HFE.out.mono ?_
            have hk := HKK.out
            rintro e w6 ⟨tu, rfl, hf⟩
            obtain ⟨us, F', hsc, hu, ho6, hr6, n6, m6, x6, y6, z6⟩ := HPL.out.b.fed hf
            obtain ⟨a6, c6, rfl⟩ := own_any ho6
            have hus : us.length ≤ 2000 := by
              have h1 := hr6.len
              have h2 := scan_counts ((scan (q.take k)).rest ++ (q.drop k).take (q.length - k))
              rw [HSS.out, List.length_append, List.length_take, List.length_drop] at h2
              have h3 := sizes_len S.out
              omega
            have HG6 : Hid (w6.ownsRow 0 26 1 (.slice a9 gs.length c9) gs.length gs) := hid (hu.keeps.own HPL.out.got HPL.out.gb)
            have HS6 := hid (Sl.ofOwn ho6)
            have HONE := hid hr6.one
            have HPS : Hid (∀ w7 v', w7.ownsRow 0 26 1 v' (gs.length + us.length) (gs ++ us) → Keeps (Bl (.slice a9 gs.length c9)) w6 w7 → (∀ k, v'.ownBlock = some k → (Value.slice a9 gs.length c9).ownBlock = some k ∨ w6.heap.size ≤ k) → PcL w w5 w7 w3.heap.size q O F' (q.length) v' (gs ++ us)) :=
              hid (fun w7 v' ho k7 hb => HPL.out.step HLOW.out (by omega) (by omega) HSS.out hsc hu hr6 m6 y6 z6.2.1 ho k7 hb)
            clear hf hsc hu ho6 hr6 n6 m6 x6 y6 z6 HFE
            go_wp2_with (at_builtin; refine wpl_append rfl _ _ 25 rfl 26 i0 (.slice none 0 0) 1 24 Try.underlying25 HI.out hz0 hz1 hz2 rfl (by decide) _ _ _ _ _ _ rfl rfl HG6.out HS6.out HONE.out ?c3 ?c4 ?_)
            case c3 => unfold maxLen; omega
            case c4 => omega
            intro v8 w7 ho8 k8 hb8
            have hp7 := HPS.out w7 v8 ho8 k8 hb8
            obtain ⟨R, hR⟩ : ∃ R, gs ++ us = R := ⟨_, rfl⟩
            rw [hR] at hp7
            obtain ⟨a8, c8, rfl⟩ := own_any hp7.got
            have HP7 := hid hp7
            clear ho8 k8 hb8 HPS hp7 hR
            go_wp2_with fail
            have e8 := List.take_length (l := q)
            have hpe : Hid (PcL w w5 w7 w3.heap.size q O F' q.length (.slice a8 R.length c8) R) := HP7
            have HPF7 : Hid (PcF w7 w2.heap.size q (.slice a2 q.length c2) Fa' (scan q) (.slice a5 vs.length c5) vs) := hid (HPF.out.keep (by rw [HO.out]; exact hpe.out.keep))
            have hrdw := HPF7.out.wrd
            have hrdg := hpe.out.grd
            have hbb := hpe.out.b
            rw [e8] at hrdg hbb
            have HBB := hid hbb
            refine (same_true (Sl.ofOwn HPF7.out.want) (Sl.ofOwn hpe.out.got) hrdw hrdg).mono ?_
            rintro e w8 ⟨rfl, k8⟩
            have HB8 := hid (HBB.out.calm k8)
            have HA8 := hid (HPF7.out.a.keep k8 (fun _ _ h => h))
            clear hrdw hrdg hbb k8 e8
            go_wp2_with fail
            refine (lost_any HA8.out).mono ?_
            rintro e w' ⟨rfl, rfl⟩
            go_wp2_with fail
            refine (lost_any HB8.out.sc).mono ?_
            rintro e w' ⟨rfl, rfl⟩
            go_wp2_with fail
            refine (held_any HA8.out).mono ?_
            rintro e w' ⟨rfl, rfl⟩
            go_wp2_with fail
            refine (held_any HB8.out.sc).mono ?_
            rintro e w' ⟨rfl, rfl⟩
            go_wp2_with fail
            go_ret
            exact ⟨rfl, HB8.out.keep.toBelow⟩
  · go_enter Try.func5, Try.ntmps5
    go_wp2_with fail
    refine (told_true _).mono ?_
    rintro e w1 ⟨rfl, k1⟩
    have K1 := hid k1
    clear k1
    go_wp2_with fail
    refine (few_no hl).mono ?_
    rintro e w' ⟨rfl, rfl⟩
    go_wp2_with fail
    refine (told_true _).mono ?_
    rintro e w2 ⟨rfl, k2⟩
    have K2 := hid (K1.out.trans k2)
    clear k2
    go_wp2_with fail
    go_ret
    exact ⟨rfl, K2.out.toBelow⟩

theorem own : ownKnob Try.prog.godebug = none := by kernel_rfl
theorem laidOut : laidOutB Try.prog = true := by kernel_rfl
set_option maxRecDepth 100000 in
theorem lifted (os : Os) (started : os.Started) (H : Type) (enc : TypeId × Value → H) :
    ReturnsInHanded {} Try.checked os 5 .any (Rows.framePiecesSpec.pre6 enc Try.prog Try.f5 Rows.framePiecesRow.domain false) (Rows.framePiecesSpec.post enc Try.prog Try.f5 false true false false) := by
  refine returnsInHanded_of_change (C := Try.checked) own started (by kernel_rfl) Try.func5
    (ChangeSpec.witness6 (enc := enc) (C := Try.checked) false ⟨#[], #[.slice none 0 0, .slice none 0 0], []⟩ 8 (by kernel_rfl) (by kernel_rfl) (by kernel_rfl) (by kernel_rfl)) ?_
  intro W base args ds gs before hval0 hW hcnd _
  have hval : ∀ (j : Nat) t v, Try.f5.params[j]? = some t → args[j]? = some v → Value.okWide Try.prog W .any base t v := hval0
  have hW' := hW
  obtain ⟨p, q, hA0, hV, rfl, hfz, hnd⟩ := hW
  have hA : DataW.TrodAll enc Try.prog W 0 (fun _ => true) true Try.f5.params.toList args.toList ds p := hA0
  rw [Try.params5] at hA hval
  obtain ⟨v0, vs0, d0, ds0, p0, q0, hargs, rfl, rfl, h0, r0⟩ := trodAll_cons hA
  obtain ⟨v1, vs1, d1, ds1, p1, q1, rfl, rfl, rfl, h1, r1⟩ := trodAll_cons r0
  obtain ⟨rfl, rfl, rfl⟩ := trodAll_nil r1
  obtain rfl : args = #[v0, v1] := by cases args; simp_all
  obtain ⟨rfl, rfl⟩ := trodVars_none hV
  have k0 := h0
  have lt0 : ∀ x ∈ p0, x.block < W.heap.size := by obtain ⟨m, hm⟩ := k0; exact DataW.trod_lt m _ _ _ hm
  have k1 := h1
  have lt1 : ∀ x ∈ p1, x.block < W.heap.size := by obtain ⟨m, hm⟩ := k1; exact DataW.trod_lt m _ _ _ hm
  obtain ⟨s0, len0, cap0, rfl⟩ := okWide_slice Try.underlying22 (hval 0 22 v0 rfl rfl)
  obtain ⟨l0, rfl, w0, b0⟩ := argSlice (encE := encP) (good := (goodP W)) (size := 4) (fun _ => rfl) (by decide) Try.underlying22 (by kernel_rfl) (fun n cs x hx => decP hx) h0
  obtain ⟨s1, len1, cap1, rfl⟩ := okWide_slice Try.underlying26 (hval 1 26 v1 rfl rfl)
  obtain ⟨l1, rfl, w1, b1⟩ := argInts .u8 Try.underlying26 Try.underlying5 (by kernel_rfl) h1
  clear hA0 hval0
  refine (walk W s0 cap0 l0 w0 b0 s1 cap1 l1 w1 b1).mono fun e W' ⟨he, bel⟩ => ?_
  subst he
  exact ⟨_, rfl, _, _, _, [], _, [], hW', trodAll_mk1 (shut_bool Try.underlying4 _), (trodAll_cons_mk (Below.trod laidOut (by kernel_rfl) (of_decide_eq_true (by kernel_rfl)) k0 bel lt0) (trodAll_cons_mk (Below.trod laidOut (by kernel_rfl) (of_decide_eq_true (by kernel_rfl)) k1 bel lt1) trodAll_mk0)), rfl, bel.frame _, fun h => by cases h⟩

theorem over : Rows.framePiecesRow.holds Try.pinned (OpenSpec.ofChange Rows.framePiecesSpec) :=
  OpenClaim.holds_of_wide 5 Try.f5 rfl rfl rfl rfl rfl rfl rfl ⟨rfl, rfl, rfl, rfl, rfl⟩ rfl rfl rfl rfl rfl (by kernel_rfl) Try.func5 (by kernel_rfl)
    (of_decide_eq_true (by kernel_rfl)) (by unfold Func.isWrapper; first | (rw [if_pos (by decide +kernel)]; kernel_rfl) | (rw [if_neg (by decide +kernel)]; exact ⟨rfl, rfl⟩))
    (fun os started H enc _ => lifted os started H enc)

theorem proved : Rows.FramePiecesSaid := over
#print axioms proved
end Go.Proofs.Ythfjihpfcollfaa.framePieces
