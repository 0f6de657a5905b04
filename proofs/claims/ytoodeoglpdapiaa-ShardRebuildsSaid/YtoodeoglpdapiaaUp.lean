/-
  The landed program keeps what the laws of layer 7 ask of it.
-/
import Derived.Test.YtoodeoglpdapiaaUo
namespace Go.Proofs.Ytoodeoglpdapiaa
open Go.RowKit Gf
set_option maxHeartbeats 400000

theorem prg : Prg fun _ => True where
  env := fun _ _ => trivial
  mul := fun a b W _ => Mul_prog a b W
  inv := fun a W _ => Inv_prog a W
  encNo := fun ok A nb cb b k n W _ _ _ h _ _ => (Encode_pno A nb cb k n h W).mono fun e w' ⟨h1, h2⟩ => ⟨none, 0, h1, by rw [h2]; exact Below.refl _ _⟩
  encYes := fun ok A nb cb b k n W _ hA hl h1 h2 h3 => (Encode_pyes A nb cb b hA.len (by omega) hA.cap k n h1 h2 h3 W hA.byts.byts).mono fun e w' ⟨A', c', he, ho, hb⟩ =>
    ⟨A', c', he, (Sll.own ho).mono (fun b _ h => Or.inr h) (fun b _ h => Or.inr h.1), hb⟩
  decArg := fun _ _ A n c ls k size W _ _ h _ _ => (Decode_parg A n c k size h W).mono fun e w' ⟨h1, h2⟩ => ⟨none, 0, h1, h2⟩
  decFew := fun okO okR A n c ls k size W _ hA hp hs hf => (Decode_p okO okR A n c ls hA.len k size hp (by omega) W hA.lists).mono fun e w' h => by
    obtain ⟨h1 | h1, hb⟩ := h
    · exact ⟨none, 0, h1.2, hb⟩
    · omega
  decYes := fun okO okR A n c ls k size W _ hA hp hs hf => (Decode_p okO okR A n c ls hA.len k size hp (by omega) W hA.lists).mono fun e w' h => by
    obtain ⟨h1 | ⟨_, A', c', h2, h3⟩, hb⟩ := h
    · omega
    · exact ⟨A', c', h2, h3, hb⟩
  rebArg := fun _ _ A n c ls k i W _ _ h _ _ => (Rebuild_parg A n c k i h W).mono fun e w' ⟨h1, h2⟩ => ⟨none, 0, h1, h2⟩
  rebFew := fun okO okR A n c ls k i W _ hA hr hp hi hf => (Rebuild_p okO okR A n c ls hA.len (fun r h => Nat.le_trans (hr r h) (by decide)) k i hp hi W hA.lists).mono fun e w' h => by
    obtain ⟨h1 | h1, hb⟩ := h
    · exact ⟨none, 0, h1.2, hb⟩
    · omega
  rebYes := fun okO okR A n c ls k i W _ hA hr hp hi hf => (Rebuild_p okO okR A n c ls hA.len (fun r h => Nat.le_trans (hr r h) (by decide)) k i hp hi W hA.lists).mono fun e w' h => by
    obtain ⟨h1 | ⟨_, A', m, c', h2, h3⟩, hb⟩ := h
    · omega
    · exact ⟨A', m, c', h2, h3, hb⟩
  chkArg := fun _ _ A n c ls k W _ _ h _ => (Check_parg A n c k h W).mono fun e w' ⟨h1, h2⟩ => ⟨h1, by rw [h2]; exact Below.refl _ _⟩
  chk := fun _ _ A n c ls k W _ hA hr hp => Check_p A n c ls hA.len hA.cap (fun r h => Nat.le_trans (hr r h) (by decide)) k hp W hA.lists.lists
end Go.Proofs.Ytoodeoglpdapiaa
