/-
  What was laid is decoded as it was.
-/
import Derived.Test.YtlenhccdkhgfgaaDoorImgQ
import Derived.Test.YtlenhccdkhgfgaaDoorErr6
namespace Go.Proofs.YtlenhccdkhgfgaaDoor
open Go.RowKit
set_option linter.unusedVariables false

/-- A configuration's image. -/
def imgL (C : Cfg) : List Int := cfgB C ++ [((mof (cfgB C)).toNat : Int) / 256, ((mof (cfgB C)).toNat : Int) % 256]

theorem imgL_len (C : Cfg) : (imgL C).length = (cfgB C).length + 2 := by simp [imgL]

theorem imgL_bytes {C : Cfg} (h : Laid C) : Bytes (imgL C) := by
  have hlt := (mof (cfgB C)).isLt
  refine h.bytes.app (fun x hx => ?_)
  simp at hx
  omega

theorem word_back (b : BitVec 16) : word ((b.toNat : Int) / 256) ((b.toNat : Int) % 256) = b := by
  have hlt := b.isLt
  unfold word
  have h1 : ((b.toNat : Int) / 256).toNat = b.toNat / 256 := by omega
  have h2 : ((b.toNat : Int) % 256).toNat = b.toNat % 256 := by omega
  rw [h1, h2, Nat.div_add_mod]
  simp

theorem begins_cfg (C : Cfg) : begins (cfgB C) = true := by
  unfold begins cfgB lettersB
  simp

theorem two_eq {m n : List Int} {a b c d : Int} (h : m ++ [a, b] = n ++ [c, d]) : m = n ∧ a = c ∧ b = d := by
  have h1 := List.append_inj' h (by simp)
  simp at h1
  exact h1

theorem dec_back {C : Cfg} (hT : Tells C) {o : Option PCfg} {at_ c : Int} (h : DecS (imgL C) o at_ c) : o = some C.pure ∧ at_ = 0 ∧ c = 0 := by
  obtain ⟨hp, hl, hf⟩ := cfg_back hT
  have hfin : (rdCfg ⟨cfgB C, 0, 0⟩).2.fin.2 = 0 := by
    unfold RS.fin RS.fault
    rw [hl, hf]
    simp
  have hw := word_back (mof (cfgB C))
  unfold imgL at h
  rcases h with ⟨h, _⟩ | ⟨m, a, b, he, hne, _⟩ | ⟨m, a, b, he, hs, hb, _⟩ | ⟨m, a, b, he, hs, hb, hq, ho, ha, hc⟩ | ⟨m, a, b, he, hs, hb, hq, _⟩
  · simp at h
    omega
  · obtain ⟨rfl, rfl, rfl⟩ := two_eq he
    exact absurd hw.symm hne
  · obtain ⟨rfl, rfl, rfl⟩ := two_eq he
    rw [begins_cfg] at hb
    cases hb
  · obtain ⟨rfl, rfl, rfl⟩ := two_eq he
    rw [hp] at ho
    exact ⟨ho, ha, hc⟩
  · obtain ⟨rfl, rfl, rfl⟩ := two_eq he
    exact absurd hfin hq

theorem dec_nil {o : Option PCfg} {at_ c : Int} (h : DecS [] o at_ c) : o = none ∧ at_ = 0 ∧ c = 4 := by
  rcases h with ⟨_, h1, h2, h3⟩ | ⟨m, a, b, he, _⟩ | ⟨m, a, b, he, _⟩ | ⟨m, a, b, he, _⟩ | ⟨m, a, b, he, _⟩
  · exact ⟨h1, h2, h3⟩
  all_goals simp at he

end Go.Proofs.YtlenhccdkhgfgaaDoor
