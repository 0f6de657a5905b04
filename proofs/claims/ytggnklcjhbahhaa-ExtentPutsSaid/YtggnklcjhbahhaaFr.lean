/-
  The landed package does as the laws ask.
-/
import Derived.Test.YtggnklcjhbahhaaFq
namespace Go.Proofs.Ytggnklcjhbahhaa
open Go.RowKit Ex
set_option maxHeartbeats 400000
set_option maxRecDepth 100000

theorem ok_len {n c : Nat} {lo : Nat} {w : World} {A : Option Addr} {b : List Pc} (h : Sp lo w A n c b) : b.length = n := h.plen
theorem wf_in {x : Int} (h : (Lit.int .i64 x).wf = true) : -9223372036854775808 ≤ x ∧ x ≤ 9223372036854775807 := i64_wf h
theorem prg : Prg fun _ => True where
  env := fun _ _ => trivial
  valid := fun A n c b W _ hA hn hok => exValid_any A n c b hA.plen (by omega) hok W hA.pcs
  size := fun A n c b W _ hA hv => (bod hA.plen hv).sizeC A c hA.pcs W (Below.refl _ _)
  part := fun A n c b off k W _ hA hv ho hk => exPart_any A n c b (bod hA.plen hv) off k (wf_in ho) (wf_in hk) W hA.pcs
  putArg := fun A n c b off id k W _ hA hv _ _ _ hno => exPutArg_any A n c b (bod hA.plen hv) W hA.pcs off id k hno
  putBig := fun A n c b off id k W _ hA hv _ _ hk h1 h2 h3 h4 h5 => exPutBig_any A n c b (bod hA.plen hv) W hA.pcs off id k h1 h2 h3 h4 h5 (wf_in hk).2
  putYes := fun A n c b off id k W _ hA hv h1 h2 h3 h4 h5 => exPutYes_any A n c b (bod hA.plen hv) W hA.pcs off id k h1 h2 h3 h4 h5
  cutArg := fun A n c b k W _ hA hv _ hk => exCutArg_any A n c b (bod hA.plen hv) W hA.pcs k hk
  cutBig := fun A n c b k W _ hA hv _ hk => exCutBig_any A n c b (bod hA.plen hv) W hA.pcs k hk
  cutYes := fun A n c b k W _ hA hv h0 h1 => exCutYes_any A n c b (bod hA.plen hv) W hA.pcs k h0 h1
  used := fun A n c b W _ hA hv => exUsed_any A n c b (bod hA.plen hv) W hA.pcs
  erase := fun A A2 n c n2 c2 b ids W _ hA hv hI hn => exErase_any A n c b (bod hA.plen hv) A2 n2 c2 ids W hA.pcs hI hn
  same := fun A A2 n c n2 c2 b b2 W _ hA hA2 => exSame_any A A2 n n2 c c2 b b2 hA.plen hA2.plen (Nat.le_trans hA.cap hA.max) (Nat.le_trans hA2.cap hA2.max) W hA.pcs hA2.pcs
theorem prgB : PrgB fun _ => True where
  bytesYes := fun A A2 n c n2 c2 b l W _ hA hv hL hn hF he => (exBytes_any A A2 n c n2 c2 b l (bod hA.plen hv) W hA.pcs hL hn hF).mono (by
    rintro e w' ⟨⟨_, B, c', rfl, hB, hg⟩ | ⟨hne, _⟩, hb⟩
    · exact ⟨B, c', rfl, hB, hg, hb⟩
    · exact absurd he hne)
  bytesNo := fun A A2 n c n2 c2 b l W _ hA hv hL hn hF he => (exBytes_any A A2 n c n2 c2 b l (bod hA.plen hv) W hA.pcs hL hn hF).mono (by
    rintro e w' ⟨⟨h0, _⟩ | ⟨_, B, c', rfl⟩, hb⟩
    · exact absurd h0 he
    · exact ⟨B, c', rfl, hb⟩)
end Go.Proofs.Ytggnklcjhbahhaa
