/-
  Decode, of any bytes.
-/
import Derived.Test.YtlenhccdkhgfgaaDoorErr5
namespace Go.Proofs.YtlenhccdkhgfgaaDoor
open Go.RowKit
set_option linter.unusedVariables false

theorem errO_met {w : World} {ev : Value} {n c : Int} (h : ErrO w ev n c) (hc : c ≠ 0) : ∃ mb, ev = .iface 109 (.pointer (some ⟨mb, 0, none⟩)) ∧ Met w mb n c := by
  rcases h with ⟨h, _⟩ | ⟨_, h⟩
  · exact absurd h hc
  · exact h

theorem zero_parts : ∃ (sa ra ta : Option Addr) (sn sc rn rc tn tc : Nat) (i0 i1 i2 i3 i4 i5 : Int) (i6 : Bool) (i7 : Int),
    zeroV = .agg #[.slice sa sn sc, .slice ra rn rc, .slice ta tn tc, .int .i64 i0, .int .i64 i1, .int .i64 i2, .int .i64 i3, .int .i64 i4, .int .i64 i5, .bool i6, .int .i64 i7] :=
  ⟨none, none, none, 0, 0, 0, 0, 0, 0, 0, 0, 0, 0, 0, 0, false, 0, rfl⟩

/-- Decode: what any bytes are, or where they are wrong. -/
theorem Decode_any {w : World} {v : Value} {p : List Int} (hg : ErrV w) (h : SlB w v p) (hb : Bytes p) (hl : p.length ≤ 1000) :
    Calls Tryd.prog 13 #[v] w fun e w' => ∃ (o : Option PCfg) (at_ c : Int) (cv : Value), DecS p o at_ c ∧ e = .returned (.tuple #[cv, .int .i64 at_, .int .i64 c]) ∧ CfgO w' cv o ∧ Keeps No w w' := by
  obtain ⟨a0, c0, rfl⟩ := h.any
  have hA := h.alloc (.cells zeroCfg.toArray 33)
  obtain ⟨sa, ra, ta, sn, sc, rn, rc, tn, tc, i0, i1, i2, i3, i4, i5, i6, i7, hz⟩ := zero_parts
  by_cases hp : p.length < 2
  · refine (Decode_err (n := 0) (c := 4) hg (by omega) ((decode_short hA hp).mono ?_)).mono ?_
    · rintro e w' ⟨ev, rfl, he, hk⟩
      obtain ⟨mb, rfl, hm⟩ := errO_met he (by decide)
      exact ⟨sa, ra, ta, sn, sc, rn, rc, tn, tc, i0, i1, i2, i3, i4, i5, i6, i7, mb, by rw [hz], hm, hk⟩
    · rintro e w' ⟨rfl, hk⟩
      exact ⟨none, 0, 4, zeroV, Or.inl ⟨hp, rfl, rfl, rfl⟩, rfl, rfl, hk⟩
  · obtain ⟨m, a, b, rfl⟩ := last_two p (by omega)
    have hl2 : m.length ≤ 1000 := by simp at hl; omega
    by_cases hs : mof m = word a b
    · rcases hbg : begins m with _ | _
      · refine (Decode_err (n := 0) (c := 2) hg (by omega) ((decode_form hA rfl hb hl2 hs hbg).mono ?_)).mono ?_
        · rintro e w' ⟨ev, rfl, he, hk⟩
          obtain ⟨mb, rfl, hm⟩ := errO_met he (by decide)
          exact ⟨sa, ra, ta, sn, sc, rn, rc, tn, tc, i0, i1, i2, i3, i4, i5, i6, i7, mb, by rw [hz], hm, hk⟩
        · rintro e w' ⟨rfl, hk⟩
          exact ⟨none, 0, 2, zeroV, Or.inr (Or.inr (Or.inl ⟨m, a, b, rfl, hs, hbg, rfl, rfl, rfl⟩)), rfl, rfl, hk⟩
      · have hd := decode_read hA rfl hb hl2 hs hbg
        have hfc := fin_code (okf_cfg ⟨m, 0, 0⟩ (Or.inl rfl))
        by_cases hf : (rdCfg ⟨m, 0, 0⟩).2.fin.2 = 0
        · refine (Decode_ok (P := (rdCfg ⟨m, 0, 0⟩).1) (hd.mono ?_)).mono ?_
          · rintro e w' ⟨C, sv, rv, tv, ev, rfl, he, hk, hR, hP, hN⟩
            obtain ⟨xa, xc, rfl⟩ := hR.sig.any
            obtain ⟨ya, yc, rfl⟩ := hR.rul.any
            obtain ⟨za, zc, rfl⟩ := hR.tab.any
            have hev : ev = .nilIface := by
              rcases he with ⟨_, h⟩ | ⟨h, _⟩
              · exact h
              · rw [hf] at h; omega
            subst hev
            exact ⟨C, xa, ya, za, xc, yc, zc, rfl, hR, hP, hk, hN.le (by simp)⟩
          · rintro e w' ⟨C, sv, rv, tv, rfl, hR, hP, hk⟩
            exact ⟨some (rdCfg ⟨m, 0, 0⟩).1, 0, 0, C.val sv rv tv, Or.inr (Or.inr (Or.inr (Or.inl ⟨m, a, b, rfl, hs, hbg, hf, rfl, rfl, rfl⟩))), rfl, ⟨C, sv, rv, tv, rfl, hR, hP⟩, hk⟩
        · refine (Decode_err (n := (rdCfg ⟨m, 0, 0⟩).2.fin.1) (c := (rdCfg ⟨m, 0, 0⟩).2.fin.2) hg ?_ (hd.mono ?_)).mono ?_
          · rcases hfc with h | h | h | h
            · exact absurd h hf
            · exact Or.inl h
            · exact Or.inr (Or.inl h)
            · exact Or.inr (Or.inr h)
          · rintro e w' ⟨C, sv, rv, tv, ev, rfl, he, hk, hR, hP, hN⟩
            obtain ⟨xa, xc, rfl⟩ := hR.sig.any
            obtain ⟨ya, yc, rfl⟩ := hR.rul.any
            obtain ⟨za, zc, rfl⟩ := hR.tab.any
            obtain ⟨mb, rfl, hm⟩ := errO_met he hf
            exact ⟨xa, ya, za, _, xc, _, yc, _, zc, C.b0, C.b1, C.b2, C.drain, C.pause, C.off, C.brk, C.log, mb, rfl, hm, hk⟩
          · rintro e w' ⟨rfl, hk⟩
            exact ⟨none, _, _, zeroV, Or.inr (Or.inr (Or.inr (Or.inr ⟨m, a, b, rfl, hs, hbg, hf, rfl, rfl, rfl⟩))), rfl, rfl, hk⟩
    · refine (Decode_err (n := 0) (c := 3) hg (by omega) ((decode_sum hA rfl hb hl2 hs).mono ?_)).mono ?_
      · rintro e w' ⟨ev, rfl, he, hk⟩
        obtain ⟨mb, rfl, hm⟩ := errO_met he (by decide)
        exact ⟨sa, ra, ta, sn, sc, rn, rc, tn, tc, i0, i1, i2, i3, i4, i5, i6, i7, mb, by rw [hz], hm, hk⟩
      · rintro e w' ⟨rfl, hk⟩
        exact ⟨none, 0, 3, zeroV, Or.inr (Or.inl ⟨m, a, b, rfl, hs, rfl, rfl, rfl⟩), rfl, rfl, hk⟩

end Go.Proofs.YtlenhccdkhgfgaaDoor
