/-
  The reference's Diff, whatever differs.
-/
import Derived.Test.YtpnfdmfmdacjmaaDia
namespace Go.Proofs.Ytpnfdmfmdacjmaa
open Go.RowKit Go.Lib

theorem rdiff_any (ch fa ch' fa' : Int) (a a' : Bool) (h c s h' c' s' : Nat) (w : World) : Calls Try.prog 69 #[.agg #[.int .u8 ch, .bool a, .int .u8 fa, .int .u8 h, .int .u8 c, .int .u8 s], .agg #[.int .u8 ch', .bool a', .int .u8 fa', .int .u8 h', .int .u8 c', .int .u8 s']] w (PairsDone (diffL h c s h' c' s') w) := by
  unfold diffL
  by_cases e0 : h = h'
  · rw [if_pos e0]
    by_cases e1 : c = c'
    · rw [if_pos e1]
      by_cases e2 : s = s'
      · rw [if_pos e2]; exact rdiff_fff ch fa ch' fa' a a' h c s h' c' s' e0 e1 e2 w
      · rw [if_neg e2]; exact rdiff_fft ch fa ch' fa' a a' h c s h' c' s' e0 e1 e2 w
    · rw [if_neg e1]
      by_cases e2 : s = s'
      · rw [if_pos e2]; exact rdiff_ftf ch fa ch' fa' a a' h c s h' c' s' e0 e1 e2 w
      · rw [if_neg e2]; exact rdiff_ftt ch fa ch' fa' a a' h c s h' c' s' e0 e1 e2 w
  · rw [if_neg e0]
    by_cases e1 : c = c'
    · rw [if_pos e1]
      by_cases e2 : s = s'
      · rw [if_pos e2]; exact rdiff_tff ch fa ch' fa' a a' h c s h' c' s' e0 e1 e2 w
      · rw [if_neg e2]; exact rdiff_tft ch fa ch' fa' a a' h c s h' c' s' e0 e1 e2 w
    · rw [if_neg e1]
      by_cases e2 : s = s'
      · rw [if_pos e2]; exact rdiff_ttf ch fa ch' fa' a a' h c s h' c' s' e0 e1 e2 w
      · rw [if_neg e2]; exact rdiff_ttt ch fa ch' fa' a a' h c s h' c' s' e0 e1 e2 w
end Go.Proofs.Ytpnfdmfmdacjmaa
