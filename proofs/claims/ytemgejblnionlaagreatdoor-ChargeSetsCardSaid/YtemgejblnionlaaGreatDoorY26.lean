/-
  Texts Cu Db Ea Ck Cl, put together by program.
-/
import Derived.Test.YtemgejblnionlaaGreatDoorY0
import Derived.Test.YtemgejblnionlaaGreatDoorY6
import Derived.Test.YtemgejblnionlaaGreatDoorY12
import Derived.Test.YtemgejblnionlaaGreatDoorY13
import Derived.Test.YtemgejblnionlaaGreatDoorY24
import Derived.Test.YtemgejblnionlaaGreatDoorY25
namespace Go.Proofs.YtemgejblnionlaaGreatDoor
open Go.RowKit Go.Maps
set_option maxHeartbeats 16000000
set_option maxRecDepth 100000
structure Snp where
 id : Int
 nm : Value
 T : Th
 one : nm.oneCell' = true
def encN (s : Snp) : List Value := [.int .i64 s.id, s.nm, .slice s.T.A s.T.n s.T.c, .int .i64 s.T.next, .slice s.T.oA s.T.on s.T.oc]
theorem encN_len (s : Snp) : (encN s).length = 5 := rfl
theorem encT_len (s : Th) : (Th.enc s).length = 3 := rfl
theorem encT_one (s : Th) : ∀ u ∈ Th.enc s, u.oneCell' = true := oneC rfl
def encI (x : Int) : List Value := [.int .i64 x]
theorem encI_len (x : Int) : (encI x).length = 1 := rfl
theorem encI_one (x : Int) : ∀ u ∈ encI x, u.oneCell' = true := oneC rfl
theorem info_tree : (Tryz.prog.info? 31).map (fun i => (i.zero, i.size, i.bytes)) = some (some (.agg #[.slice none 0 0, .int .i64 0, .slice none 0 0]), 3, 56) := by kernel_rfl
theorem info_i : (Tryz.prog.info? 3).map (fun i => (i.zero, i.size, i.bytes)) = some (some (.int .i64 0), 1, 8) := by kernel_rfl
theorem load_sn {ops : Array Oper} {rest : List Oper} {o : Oper} {a : Act} {w : World} {Q : Exit → Act → World → Prop} (hgd : o.guard = none) (x : Operand) (ho : o.op = .load 39 x)
 (b k : Nat) (hx : a.eval x = .pointer (some ⟨b, k, none⟩)) (u : Snp) (hc : w.rangeAt b k (encN u)) (hr : wpList Tryz.prog ops Q rest (a.put o.dst (.agg (encN u).toArray)) w) : wpList Tryz.prog ops Q (o :: rest) a w :=
 wpList_load_mid hgd 39 x ho b k hx (encN u) _ hc Tryz.underlying39 rfl (by kernel_rfl) hr
theorem store_sn {ops : Array Oper} {rest : List Oper} {o : Oper} {a : Act} {w : World} {Q : Exit → Act → World → Prop} (hgd : o.guard = none) (x y : Operand) (ho : o.op = .store 39 x y)
 (g : Nat) (hx : a.eval x = .pointer (some ⟨g, 0, none⟩)) (u : Snp) (hy : a.eval y = .agg (encN u).toArray) (old : Array Value) (hg : w.heap[g]? = some (.cells old 39 (0, 0))) (hold : old.size = 5)
 (hr : wpList Tryz.prog ops Q rest (a.put o.dst undef) (w.setRow g (encN u).toArray)) : wpList Tryz.prog ops Q (o :: rest) a w :=
 wpList_store_row hgd 39 x y ho g (encN u).toArray hx hy 39 old hg (by kernel_rfl) hold (by simp [encN, Value.oneCell']; exact u.one) hr
theorem load_tk {ops : Array Oper} {rest : List Oper} {o : Oper} {a : Act} {w : World} {Q : Exit → Act → World → Prop} (hgd : o.guard = none) (x : Operand) (ho : o.op = .load 31 x)
 (b k : Nat) (hx : a.eval x = .pointer (some ⟨b, k, none⟩)) (T : Th) (hc : w.rangeAt b k T.enc) (hr : wpList Tryz.prog ops Q rest (a.put o.dst T.val) w) : wpList Tryz.prog ops Q (o :: rest) a w :=
 wpList_load_mid hgd 31 x ho b k hx T.enc _ hc Tryz.underlying31 rfl (by kernel_rfl) hr
theorem own_made (W : World) (xs : List Value) (t : TypeId) (s n : Nat) (hl : xs.length = n * s) (hn : n ≤ maxLen) : (W.alloc (.cells xs.toArray t)).ownsRow W.heap.size t s (.slice (some ⟨W.heap.size, 0, none⟩) n n) n xs :=
 ⟨hl, .inr ⟨_, n, xs.toArray, rfl, Nat.le_refl _, heap_alloc_new W _, Nat.le_refl _, hn, by simp [hl], by simp [← hl]⟩⟩
theorem sorted_ex (l : List Rn) : ∃ l0 : List Rn, l0.Perm l ∧ l0.Pairwise (fun a b => a.1 ≤ b.1) := by
 refine ⟨l.mergeSort (fun a b => decide (a.1 ≤ b.1)), List.mergeSort_perm _ _, ?_⟩
 have h := List.pairwise_mergeSort (le := fun a b : Rn => decide (a.1 ≤ b.1)) (fun a b c h1 h2 => by simp at *; omega) (fun a b => by simp; omega) l
 exact h.imp fun {a b} h => by simpa using h
abbrev zSn : Array Value := #[.int .i64 0, .string ⟨#[]⟩, .slice none 0 0, .int .i64 0, .slice none 0 0]
theorem own_nb {w w' : World} {base : Nat} {e : TypeId} {s : Nat} {v : Value} {n : Nat} {xs : List Value} {row : Option Nat} (h : w.ownsRow base e s v n xs) (hg : w.grownBy w' row) (hk : row ≠ v.ownBlock ∨ v.ownBlock = none) : w'.ownsRow base e s v n xs := by
 rcases h with ⟨h1, ⟨h2, h3⟩ | ⟨g, cap, cur, h2, h3, h4, h5⟩⟩
 · exact ⟨h1, .inl ⟨h2, h3⟩⟩
 · subst h2
   refine ⟨h1, .inr ⟨g, cap, cur, rfl, h3, (hg.block g (Array.getElem?_eq_some_iff.1 h4).1 (fun e1 => ?_)).trans h4, h5⟩⟩
   rcases hk with hk | hk
   · exact hk (by rw [← e1]; rfl)
   · cases hk
inductive HeldTo : List Tr → List Int → List Rn → Prop
 | nil : HeldTo [] [] []
 | snoc {ts : List Tr} {held : List Int} {seen : List Rn} {t : Tr} {l' l2 : List Rn} : HeldTo ts held seen → l'.Perm (rawB t) → l'.Pairwise (fun a b => a.1 ≤ b.1) → l2.Perm (seen ++ cutF (joinF l') seen) → l2.Pairwise (fun a b => a.1 ≤ b.1) →
  HeldTo (ts ++ [t]) (held ++ [lenR (cutF (joinF l') seen)]) (joinF l2)
structure HBound (all : List Tr) : Prop where
 raw : ∀ t ∈ all, (rawB t).length ≤ 300000
 cut : ∀ (k : Nat) (held : List Int) (seen : List Rn) (t : Tr) (l' : List Rn), HeldTo (all.take k) held seen → all[k]? = some t → l'.Perm (rawB t) → l'.Pairwise (fun a b => a.1 ≤ b.1) → seen.length ≤ 300000 ∧ (cutF (joinF l') seen).length ≤ 300000
abbrev HeldRes (all : List Tr) (w : World) (e : Ending) (w' : World) : Prop :=
 ∃ B m d held seen, e = .returned (.slice B m d) ∧ HeldTo all held seen ∧ w'.ownsRow w.heap.size 3 1 (.slice B m d) m (encs encI held) ∧ Below w.heap.size w w'
theorem Held_lands (CS : SortR) (T : Th) (A : Option Addr) (n c : Nat) (l : List Snp) (w : World) (hT : T.ok w) (hA : Sv w A n c 5 (encs encN l)) (hl : ∀ s ∈ l, s.T.ok w) (hn : n ≤ 1000)
 (hs : ∀ X ∈ T :: l.map (·.T), X.n ≤ 1000 ∧ ∀ h ∈ X.hs, h.bn ≤ 1000000) (hB : HBound ((T :: l.map (·.T)).map Th.t)) :
 Calls Tryz.prog 32 #[T.val, .slice A n c] w fun e w' => HeldRes ((T :: l.map (·.T)).map Th.t) w e w' := by
 obtain ⟨i2, hj, hj0, hj1, hj2⟩ := info_parts info_tree
 obtain ⟨i3, hi, hi0, hi1, hi2⟩ := info_parts info_i
 have HA := Lib.hid hA
 have HN := Lib.hid hn
 have HL := Lib.hid (show l.length = n from hA.plen encN_len (by decide))
 have HOKS := Lib.hid (show ∀ X ∈ T :: l.map (·.T), X.ok w from fun X hX => by
  rcases List.mem_cons.1 hX with rfl | hX
  · exact hT
  · obtain ⟨s, hs, rfl⟩ := List.mem_map.1 hX; exact hl s hs)
 have HSM := Lib.hid hs
 have HB0 := Lib.hid hB
 have HCS := Lib.hid CS
 clear hT hA hl hn hs hB CS
 have kk0 := Bxs.nil w
 obtain ⟨x1, hwx1, hzx1, kx1⟩ := kk0.new rfl T.cs (Th.enc T).toArray 31
 have HW1 := Lib.hid hwx1
 have K1 := Lib.hid kx1
 clear kk0 hwx1 hzx1 kx1
 go_enter Tryz.func32, Tryz.ntmps32
 go_upto_region 1 with fail
 rw [HW1.out]
 go_upto_region 2 with (with_reducible refine load_tr rfl _ rfl w.heap.size rfl T (box_range (K1.out.at 0 rfl).out) ?_)
 have HO1 := Lib.hid (own_made x1 (encs Th.enc [T]) 31 3 1 rfl (by decide))
 have HW2 := Lib.hid (show x1.alloc (.cells #[.slice T.A T.n T.c, .int .i64 T.next, .slice T.oA T.on T.oc] 31) = x1.alloc (.cells (encs Th.enc [T]).toArray 31) from rfl)
 rw [HW2.out]
 have HB2 := Lib.hid (K1.out.low.out.alloc K1.out.low.out.size (.cells (encs Th.enc [T]).toArray 31))
 have HO2 := Lib.hid (own_weak HO1.out K1.out.low.out.size)
 clear HW2 HO1
 obtain ⟨b1, hb1⟩ : ∃ q, x1.heap.size = q := ⟨_, rfl⟩
 rw [hb1] at HO2 ⊢
 clear hb1
 generalize x1.alloc (.cells (encs Th.enc [T]).toArray 31) = x2 at *
 clear K1 HW1
 go_wp2
 go_loopw [5, 17] (fun tr i wr => ∃ (k : Nat) (B : Option Addr) (d : Nat), k ≤ n ∧ i = .int .i64 k ∧ tr = .slice B (k + 1) d ∧ wr.ownsRow w.heap.size 31 3 (.slice B (k + 1) d) (k + 1) (encs Th.enc (T :: (l.take k).map (·.T))) ∧ Below w.heap.size w wr) (fun _ i _ => n - (intOf i).toNat)
 case atStart => exact ⟨0, _, 1, Nat.zero_le _, rfl, rfl, HO2.out, HB2.out⟩
 case round =>
  clear HO2 HB2
  obtain ⟨k, B, d, hk, rfl, rfl, hO, hB⟩ := hrel
  have HB := Lib.hid hB
  have HO := Lib.hid hO
  clear hB hO
  by_cases hlt : k < n
  · obtain ⟨s, hs⟩ : ∃ s, l[k]? = some s := ⟨_, List.getElem?_eq_getElem (by rw [HL.out]; exact hlt)⟩
    have kn : (k : Int) < (n : Int) := Int.ofNat_lt.2 hlt
    have k0 : (0 : Int) ≤ (k : Int) := Int.natCast_nonneg k
    have hwj : IntKind.i64.wrap ((k : Int) + 1) = (k : Int) + 1 := IntWalk.i64_in _ (by have := HN.out; omega)
    obtain ⟨g, ad, hA, hg, hc⟩ := Sv.range encN_len (by decide) (HA.out.below HB.out) hs
    have HC := Lib.hid hc
    have HTK := Lib.hid (show T :: (l.take (k + 1)).map (·.T) = (T :: (l.take k).map (·.T)) ++ [s.T] by rw [takeU_snoc hs, List.map_append]; rfl)
    have HLT := Lib.hid hlt
    have HAA := Lib.hid hA
    have HSZ := Lib.hid HB.out.size
    obtain ⟨F, hF⟩ : ∃ F, T :: (l.take k).map (·.T) = F := ⟨_, rfl⟩
    rw [hF] at HO HTK
    rw [hA]
    clear hc hs hlt hk hF hA
    have kk0 := Bxs.nil wr
    obtain ⟨y1, hwy1, hzy1, ky1⟩ := kk0.new rfl zSn zSn 39
    have HY1 := Lib.hid hwy1
    have KY1 := Lib.hid ky1
    have KY2 := Lib.hid (ky1.row 0 rfl (encN s).toArray)
    clear kk0 hwy1 hzy1 ky1
    go_upto_region 5 with (first | rw [HY1.out] | (with_reducible refine load_sn rfl _ rfl g (ad + k * 5) rfl s HC.out ?_) | (with_reducible refine store_sn rfl _ _ rfl wr.heap.size rfl s rfl zSn (KY1.out.at 0 rfl).out rfl ?_))
    generalize y1.setRow wr.heap.size (encN s).toArray = y2 at *
    have HR := Lib.hid (show y2.rangeAt wr.heap.size 2 s.T.enc from fun j u hu => by
     have h1 := box_range (KY2.out.at 0 rfl).out (j + 2) u hu
     rw [show (2 : Nat) + j = 0 + (j + 2) by omega]
     exact h1)
    have HO3 := Lib.hid (own_keep HO.out KY2.out.low.out)
    have HS3 := Lib.hid (Nat.le_trans HSZ.out KY2.out.low.out.size)
    clear HY1 KY1
    go_wp2_with (first | (with_reducible refine load_tk rfl _ rfl wr.heap.size 2 rfl s.T HR.out ?_) | (at_builtin; refine wpList_append_gr rfl _ _ 116 rfl w.heap.size 31 i2 _ 3 56 Tryz.underlying116 hj hj0 hj1 hj2 rfl (by decide) _ _ _ rfl (own_keep HO3.out ((Below.refl _ y2).alloc (Nat.le_refl _) _)) ⟨y2.heap.size, 0, none⟩ 1 1 s.T.enc rfl rfl (new_row y2 _ _) (encT_one _) (by unfold maxLen; have := HLT.out; have := HN.out; omega) (by have := HLT.out; have := HN.out; omega) (by have := HS3.out; simp; omega) ?_; intro v' w5 hown5 hg5; obtain ⟨B5, c5, rfl⟩ := own_form hown5; have HO5 := Lib.hid hown5; have HG5 := Lib.hid hg5; clear hown5 hg5))
    have hra : Below y2.heap.size y2 (y2.alloc (.cells s.T.enc.toArray 31)) := (Below.refl _ y2).alloc (Nat.le_refl _) _
    have HB5 := Lib.hid (((HB.out.trans (KY2.out.low.out.mono HSZ.out)).trans (hra.mono HS3.out)).grown HG5.out (Nat.le_trans HS3.out hra.size) (fun k e => (HO3.out.lt k e).1))
    clear hra
    go_roundw
    case rel => exact ⟨k + 1, B5, c5, HLT.out, by go_num, rfl, by have := HO5.out; rw [HTK.out, encs_append, encs_one]; exact this, HB5.out⟩
    case measure => have := HLT.out; simp [intOf]; omega
  · have kn : ¬ (k : Int) < (n : Int) := fun e => hlt (Int.ofNat_lt.1 e)
    obtain rfl : n = k := by omega
    have ht : l.take n = l := List.take_of_length_le (by rw [HL.out]; exact Nat.le_refl _)
    rw [ht] at HO
    obtain ⟨TS, hTS⟩ : ∃ TS, T :: l.map (·.T) = TS := ⟨_, rfl⟩
    rw [hTS] at HO HOKS HSM HB0
    have HTSE := Lib.hid hTS
    have HTL := Lib.hid (show TS.length = n + 1 by rw [← hTS, List.length_cons, List.length_map, HL.out])
    have HTR := Lib.hid (show Sv wr B (n + 1) d 3 (encs Th.enc TS) from Sv.own HO.out (encs_cells encT_one _))
    obtain ⟨wT, hwT⟩ : ∃ q, q = wr := ⟨_, rfl⟩
    subst hwT
    clear HO ht hlt hk hTS
    go_wp2
    have HLW := Lib.hid (show Below w.heap.size w wT from HB.out)
    clear HB
    go_loopw [8, 9, 29] (fun hv sv i wr => ∃ (k : Nat) (HH : Option Addr) (dh : Nat) (SB : Option Addr) (ms ds : Nat) (held : List Int) (seen : List Rn), k ≤ n + 1 ∧ i = .int .i64 k ∧ hv = .slice HH k dh ∧ sv = .slice SB ms ds ∧ wr.ownsRow wT.heap.size 3 1 (.slice HH k dh) k (encs encI held) ∧ wr.ownsRow wT.heap.size 124 2 (.slice SB ms ds) ms (encs encR seen) ∧ (∀ g, (Value.slice HH k dh).ownBlock = some g → (Value.slice SB ms ds).ownBlock ≠ some g) ∧ HeldTo ((TS.take k).map Th.t) held seen ∧ Below wT.heap.size wT wr) (fun _ _ i _ => n + 1 - (intOf i).toNat)
    case atStart => exact ⟨0, none, 0, none, 0, 0, [], [], Nat.zero_le _, rfl, rfl, rfl, World.ownsRow_nil _ _ _ _, World.ownsRow_nil _ _ _ _, (fun g e => by cases e), .nil, Below.refl _ _⟩
    case round =>
     obtain ⟨k, HH, dh, SB, ms, ds, held, seen, hk, rfl, rfl, rfl, hOh, hOs, hap, hto, hB⟩ := hrel
     have HB := Lib.hid hB
     have HE := Lib.hid hOh
     have SE := Lib.hid hOs
     have HAP := Lib.hid hap
     have HTO := Lib.hid hto
     clear hB hOh hOs hap hto
     by_cases hlt : k < n + 1
     · obtain ⟨X, hX⟩ : ∃ X, TS[k]? = some X := ⟨_, List.getElem?_eq_getElem (by rw [HTL.out]; exact hlt)⟩
       have kn : (k : Int) < ((n + 1 : Nat) : Int) := Int.ofNat_lt.2 hlt
       have kn2 : (k : Int) < (n : Int) + 1 := by omega
       have k0 : (0 : Int) ≤ (k : Int) := Int.natCast_nonneg k
       have hwj : IntKind.i64.wrap ((k : Int) + 1) = (k : Int) + 1 := IntWalk.i64_in _ (by have := HN.out; omega)
       obtain ⟨g, ad, hA, hg, hc⟩ := Sv.range encT_len (by decide) (HTR.out.below HB.out) hX
       have HC := Lib.hid hc
       have HXM := Lib.hid (List.mem_of_getElem? hX)
       have HKL := Lib.hid hlt
       have HAA := Lib.hid hA
       have HTK := Lib.hid (show (TS.take (k + 1)).map Th.t = (TS.take k).map Th.t ++ [X.t] by rw [takeU_snoc hX, List.map_append]; rfl)
       have HKX := Lib.hid (show (TS.map Th.t)[k]? = some X.t by rw [List.getElem?_map, hX]; rfl)
       have HSZ := Lib.hid HB.out.size
       have HSZ0 := Lib.hid (Nat.le_trans HLW.out.size HB.out.size)
       have HLW := Lib.hid (HLW.out.trans (HB.out.mono HLW.out.size))
       rw [hA]
       clear hc hX hlt hk hA
       have kk0 := Bxs.nil wr
       obtain ⟨y1, hwy1, hzy1, ky1⟩ := kk0.new rfl zT zT 31
       have HY1 := Lib.hid hwy1
       have KY1 := Lib.hid ky1
       have KY2 := Lib.hid (ky1.row 0 rfl X.enc.toArray)
       clear kk0 hwy1 hzy1 ky1
       go_upto_region 12 with (first | rw [HY1.out] | (with_reducible refine load_tk rfl _ rfl g (ad + k * 3) rfl X HC.out ?_) | (with_reducible refine store_tr rfl _ _ rfl wr.heap.size rfl X rfl zT (KY1.out.at 0 rfl).out rfl ?_))
       generalize y1.setRow wr.heap.size X.enc.toArray = y2 at *
       have HS2 := Lib.hid (show wT.heap.size ≤ y2.heap.size from Nat.le_trans HSZ.out KY2.out.low.out.size)
       have HE2 := Lib.hid (own_keep HE.out KY2.out.low.out)
       have SE2 := Lib.hid (own_keep SE.out KY2.out.low.out)
       have HSL := Lib.hid (show ms ≤ 300000 by
        have h := own_plen encR_len SE.out (by decide)
        obtain ⟨l0, hp0, hs0⟩ : ∃ l0 : List Rn, l0.Perm (rawB X.t) ∧ l0.Pairwise (fun a b => a.1 ≤ b.1) := sorted_ex _
        have h2 := (HB0.out.cut k held seen X.t l0 (by rw [← List.map_take]; exact HTO.out) HKX.out hp0 hs0).1
        omega)
       clear HY1 KY1
       go_upto_region 13 with (first | (with_reducible refine load_tk rfl _ rfl wr.heap.size 0 rfl X (box_range (KY2.out.at 0 rfl).out) ?_) | (go_at_call 64; (with_reducible refine (chunkBytes_lands X _ ((HOKS.out X HXM.out).below (HLW.out.trans (KY2.out.low.out.mono HSZ0.out))) (HSM.out X HXM.out).1 (HSM.out X HXM.out).2).mono ?_); rintro e w5 ⟨B1, m1, d1, rfl, hO1, hb1⟩; have RO := Lib.hid hO1; have RB := Lib.hid hb1; have RL := Lib.hid (show m1 ≤ 300000 by have h := own_plen encR_len hO1 (by decide); have h2 := HB0.out.raw X.t (List.mem_map.2 ⟨X, HXM.out, rfl⟩); omega); clear hO1 hb1) | (go_at_call 63; (with_reducible refine (joined_lands HCS.out y2.heap.size B1 m1 d1 (rawB X.t) w5 RO.out (by have := RL.out; omega) RB.out.size).mono ?_); rintro e w6 ⟨l', B2, m2, d2, rfl, hp, hsrt, hO2, hle, hb2⟩; have JP := Lib.hid (And.intro hp hsrt); have JO := Lib.hid hO2; have JB := Lib.hid (RB.out.trans hb2); have JL := Lib.hid (show m2 ≤ 300000 by have := RL.out; omega); have JS := Lib.hid (show w5.heap.size ≤ w6.heap.size from hb2.size); clear hp hsrt hO2 hle hb2) | (go_at_call 62; (with_reducible refine (cut_lands B2 m2 d2 SB ms ds (joinF l') seen w6 (Sv.own JO.out (encs_cells encR_one _)) (Sv.own (own_keep SE2.out JB.out) (encs_cells encR_one _)) (by have := JL.out; omega) (by have := HSL.out; omega)).mono ?_); rintro e w7 ⟨B3, m3, d3, rfl, hO3, hb3⟩; have CO := Lib.hid hO3; have CB := Lib.hid (JB.out.trans (hb3.mono JB.out.size)); have C6 := Lib.hid (show y2.heap.size ≤ w6.heap.size from JB.out.size); clear hO3 hb3))
       obtain ⟨fresh, hfr⟩ : ∃ fresh, cutF (joinF l') seen = fresh := ⟨_, rfl⟩
       have HFR := Lib.hid hfr
       have HFL := Lib.hid (show m3 ≤ 300000 by
        have h := own_plen encR_len CO.out (by decide)
        have h2 := (HB0.out.cut k held seen X.t l' (by rw [← List.map_take]; exact HTO.out) HKX.out JP.out.1 JP.out.2).2
        omega)
       rw [hfr] at CO
       clear hfr
       go_upto_region 14 with (first | (go_at_call 65; (with_reducible refine (length_lands B3 m3 d3 fresh w7 (Sv.own CO.out (encs_cells encR_one _)) (by have := HFL.out; omega)).mono ?_); rintro e w8 ⟨rfl, hb8⟩; have LB := Lib.hid hb8; have LZ := Lib.hid (CB.out.trans (hb8.mono CB.out.size)); clear hb8) | (at_builtin; refine wpList_append_at rfl _ _ 57 rfl wT.heap.size 3 i3 _ 1 8 Tryz.underlying57 hi hi0 hi1 hi2 rfl (by decide) _ _ _ rfl (own_keep (own_keep HE2.out LZ.out) ((Below.refl _ w8).alloc (Nat.le_refl _) _)) ⟨w8.heap.size, 0, none⟩ 1 1 (encI (lenR fresh)) rfl rfl (new_row w8 _ _) (encI_one _) (by unfold maxLen; have := HKL.out; have := HN.out; omega) (by have := HKL.out; have := HN.out; omega) (by have := HS2.out; have := LZ.out.size; simp; omega) ?_; intro v' w9 hown9 hg9 ha9; obtain ⟨B9, d9, rfl⟩ := own_form hown9; have HO9 := Lib.hid hown9; have HG9 := Lib.hid hg9; have HA9 := Lib.hid ha9; clear hown9 hg9 ha9))
       have hra : Below w8.heap.size w8 (w8.alloc (.cells (encI (lenR fresh)).toArray 3)) := (Below.refl _ w8).alloc (Nat.le_refl _) _
       have HZA := Lib.hid (LZ.out.trans (hra.mono LZ.out.size))
       have HHB := Lib.hid (show ∀ g, (Value.slice HH k dh).ownBlock = some g → g < wr.heap.size from fun g e => (HE.out.lt g e).2)
       have SE9 := Lib.hid (own_nb (own_keep SE2.out HZA.out) HG9.out (by
        cases h : (Value.slice SB ms ds).ownBlock with
        | none => exact .inr rfl
        | some g => exact .inl fun e => HAP.out g e h))
       have FR9 := Lib.hid (own_nb (own_keep (own_keep CO.out LB.out) hra) HG9.out (by
        cases h : (Value.slice B3 m3 d3).ownBlock with
        | none => exact .inr rfl
        | some g => exact .inl (fun e => absurd (HHB.out g e) (by have h1 := (CO.out.lt g h).1; have h3 := C6.out; have h4 := KY2.out.low.out.size; omega))))
       have HB9 := Lib.hid (((HB.out.trans (KY2.out.low.out.mono HSZ.out)).trans (HZA.out.mono HS2.out)).grown HG9.out (by have := HZA.out.size; have := HS2.out; omega) (fun k e => (HE.out.lt k e).1))
       have HL9 := Lib.hid (show w8.heap.size ≤ w9.heap.size from Nat.le_trans hra.size HG9.out.size)
       have HN9 := Lib.hid (show ∀ g, (Value.slice B9 (k + 1) d9).ownBlock = some g → g < w9.heap.size from fun g e => (HO9.out.lt g e).2)
       have HW10 := Lib.hid (show Below w9.heap.size w9 (w9.alloc (.cells #[.slice SB ms ds, .slice B3 m3 d3] 117)) from (Below.refl _ w9).alloc (Nat.le_refl _) _)
       clear hra
       go_wp2_with (first | (go_at_call 66; (with_reducible refine (concatR_lands w9.heap.size SB B3 ms ds m3 d3 seen fresh _ (heap_alloc_new w9 _) (Sv.own (own_keep SE9.out ((Below.refl _ w9).alloc (Nat.le_refl _) _)) (encs_cells encR_one _)) (Sv.own (own_keep FR9.out ((Below.refl _ w9).alloc (Nat.le_refl _) _)) (encs_cells encR_one _)) (by have := HSL.out; omega) (by have := HFL.out; omega)).mono ?_); rintro e w11 ⟨B4, m4, d4, rfl, hO4, hm4, hb4⟩; have NO := Lib.hid hO4; have NB := Lib.hid hb4; have NL := Lib.hid hm4; clear hO4 hm4 hb4) | (go_at_call 63; (with_reducible refine (joined_lands HCS.out (w9.alloc (.cells #[.slice SB ms ds, .slice B3 m3 d3] 117)).heap.size B4 m4 d4 (seen ++ fresh) w11 NO.out (by have := NL.out; have := HSL.out; have := HFL.out; omega) NB.out.size).mono ?_); rintro e w12 ⟨l2, B5, m5, d5, rfl, hp5, hs5, hO5, hle5, hb5⟩; have QP := Lib.hid (And.intro hp5 hs5); have QO := Lib.hid hO5; have QB := Lib.hid hb5; clear hp5 hs5 hO5 hle5 hb5))
       have HX := Lib.hid (show Below w9.heap.size w9 w12 from (HW10.out.trans (NB.out.mono HW10.out.size)).trans (QB.out.mono HW10.out.size))
       go_roundw
       case rel => exact ⟨k + 1, B9, d9, B5, m5, d5, held ++ [lenR fresh], joinF l2, HKL.out, by go_num, rfl, rfl, own_keep (by rw [encs_append, encs_one]; exact HO9.out) HX.out, own_weak QO.out (by have := HB9.out.size; have := HW10.out.size; have := NB.out.size; omega), (fun g e1 e2 => by
        have h1 := HN9.out g e1
        have h2 := (QO.out.lt g e2).1
        have h3 := HW10.out.size
        have h4 := NB.out.size
        omega), by rw [HTK.out, ← HFR.out]; exact .snoc HTO.out JP.out.1 JP.out.2 (by rw [HFR.out]; exact QP.out.1) QP.out.2, HB9.out.trans (HX.out.mono HB9.out.size)⟩
       case measure => have := HKL.out; simp [intOf]; omega
     · have kn : ¬ (k : Int) < ((n + 1 : Nat) : Int) := fun e => hlt (Int.ofNat_lt.1 e)
       have kn2 : ¬ (k : Int) < (n : Int) + 1 := by omega
       obtain rfl : k = n + 1 := by omega
       have ht : TS.take (n + 1) = TS := List.take_of_length_le (by rw [HTL.out]; exact Nat.le_refl _)
       rw [ht] at HTO
       clear ht hlt hk
       go_wp2
       go_ret
       exact ⟨HH, n + 1, dh, held, seen, rfl, by have h := HTO.out; rw [← HTSE.out] at h; simpa using h, own_weak HE.out HLW.out.size, HLW.out.trans (HB.out.mono HLW.out.size)⟩
end Go.Proofs.YtemgejblnionlaaGreatDoor
namespace Go.Proofs.YtemgejblnionlaaGreatDoor
set_option maxHeartbeats 1000000
theorem joinF_len : ∀ (n : Nat) (l : List Rn), l.length = n → (joinF l).length ≤ n
 | 0, l, h => by obtain rfl := List.eq_nil_of_length_eq_zero h; exact Nat.le_refl _
 | n + 1, l, h => by
   rcases List.eq_nil_or_concat l with rfl | ⟨m, a, rfl⟩
   · cases h
   · rw [List.concat_eq_append] at h ⊢
     have h1 := joinF_len n m (by simpa using h)
     rw [joinF_snoc]
     rcases List.eq_nil_or_concat (joinF m) with e | ⟨k, p, e⟩
     · rw [e, show joinStep [] a = [a] from rfl]; simp
     · rw [e, List.concat_eq_append] at h1 ⊢
       rw [joinStep_last]
       simp only [List.length_append, List.length_singleton] at h1
       split <;> simp <;> omega
theorem raw_join {t : Tr} {l' : List Rn} (hp : l'.Perm (rawB t)) (hs : l'.Pairwise (fun a b => a.1 ≤ b.1)) (h : ∀ r ∈ rawB t, r.1 < r.2) : NormR (joinF l') ∧ (∀ x, inR (joinF l') x ↔ inR (rawB t) x) ∧ (joinF l').length ≤ (rawB t).length := by
 obtain ⟨k1, k2, -⟩ := joinF_norm l'.length l' rfl hs (fun r hr => h r (hp.mem_iff.1 hr))
 refine ⟨k1, fun x => (k2 x).trans (inR_perm hp x), ?_⟩
 have := joinF_len l'.length l' rfl
 rw [hp.length_eq] at this
 exact this
theorem held_ok {P : Nat} {ts : List Tr} {held : List Int} {seen : List Rn} (h : HeldTo ts held seen) (hr : ∀ t ∈ ts, (rawB t).length ≤ P ∧ ∀ r ∈ rawB t, r.1 < r.2) :
 NormR seen ∧ (∀ x, inR seen x ↔ ∃ t ∈ ts, inR (rawB t) x) ∧ seen.length + P ≤ 2 ^ ts.length * P ∧ held.length = ts.length := by
 induction h with
 | nil => exact ⟨.nil, fun x => ⟨fun k => absurd k (inR_nil x), fun ⟨_, k, _⟩ => by cases k⟩, by simp, rfl⟩
 | @snoc ts held seen t l' l2 h1 hp hs hp2 hs2 ih =>
   obtain ⟨i1, i2, i3, i4⟩ := ih (fun t ht => hr t (List.mem_append_left _ ht))
   have ht := hr t (List.mem_append_right _ (List.mem_singleton.2 rfl))
   obtain ⟨k1, k2, k3⟩ := raw_join hp hs ht.2
   obtain ⟨c1, c2, c3⟩ := cutF_ok k1 i1
   obtain ⟨j1, j2, -⟩ := joinF_norm l2.length l2 rfl hs2 (fun r hr => by
    rcases List.mem_append.1 (hp2.mem_iff.1 hr) with h | h
    · exact i1.pos r h
    · exact c1.pos r h)
   refine ⟨j1, fun x => ?_, ?_, by simp [i4]⟩
   · rw [j2, inR_perm hp2, inR_append, c2, i2, k2]
     constructor
     · rintro (⟨u, k4, k5⟩ | ⟨k4, -⟩)
       · exact ⟨u, List.mem_append_left _ k4, k5⟩
       · exact ⟨t, List.mem_append_right _ (List.mem_singleton.2 rfl), k4⟩
     · rintro ⟨u, k4, k5⟩
       by_cases k6 : ∃ t ∈ ts, inR (rawB t) x
       · exact .inl k6
       · rcases List.mem_append.1 k4 with k4 | k4
         · exact absurd ⟨u, k4, k5⟩ k6
         · rw [List.mem_singleton.1 k4] at k5
           exact .inr ⟨k5, k6⟩
   · have h3 := joinF_len l2.length l2 rfl
     have h4 := hp2.length_eq
     rw [List.length_append] at h4
     have h5 : 2 ^ (ts ++ [t]).length * P = 2 * (2 ^ ts.length * P) := by
      rw [List.length_append, List.length_singleton, Nat.pow_succ, Nat.mul_comm (2 ^ ts.length) 2, Nat.mul_assoc]
     rw [h5]
     have := ht.1
     omega
theorem bound_ok {P : Nat} {all : List Tr} (hr : ∀ t ∈ all, (rawB t).length ≤ P ∧ ∀ r ∈ rawB t, r.1 < r.2) (hP : 2 ^ all.length * P ≤ 300000) : HBound all := by
 have pw : ∀ k, k ≤ all.length → 2 ^ k * P ≤ 300000 := fun k hk => Nat.le_trans (Nat.mul_le_mul_right _ (Nat.pow_le_pow_right (by decide) hk)) hP
 have hP0 : P ≤ 300000 := by have := pw 0 (Nat.zero_le _); simpa using this
 refine ⟨fun t ht => Nat.le_trans (hr t ht).1 hP0, fun k held seen t l' hto hk hp hs => ?_⟩
 have hkl := (List.getElem?_eq_some_iff.1 hk).1
 obtain ⟨i1, -, i3, -⟩ := held_ok hto (P := P) (fun t ht => hr t (List.mem_of_mem_take ht))
 rw [List.length_take, Nat.min_eq_left (by omega)] at i3
 have h1 := pw k (by omega)
 obtain ⟨k1, -, k3⟩ := raw_join hp hs (hr t (List.mem_of_getElem? hk)).2
 have h2 := (cutF_ok k1 i1).2.2
 have h3 := (hr t (List.mem_of_getElem? hk)).1
 exact ⟨by omega, by omega⟩
end Go.Proofs.YtemgejblnionlaaGreatDoor
namespace Go.Proofs.YtemgejblnionlaaGreatDoor
open Go.RowKit
set_option maxHeartbeats 800000
set_option maxRecDepth 100000
theorem acc_dec {l m : List (Int × Us)} (h1 : l.Pairwise (fun a b => a.1 < b.1)) (h2 : ∀ a ∈ l, totF (ofF m) a.1 = a.2 ∧ a.2 ≠ (0, 0)) (h3 : ∀ a ∈ m, totF (ofF m) a.1 = (0, 0) ∨ a.1 ∈ l.map (·.1)) : AccL l (totF (ofF m)) := by
 refine ⟨h1, fun o u => ⟨fun h => h2 (o, u) h, fun ⟨h, hu⟩ => ?_⟩⟩
 cases hf : ofF m o with
 | none => exact absurd h.symm (by unfold totF; rw [hf]; exact hu)
 | some v =>
   obtain ⟨a, ha, rfl⟩ := ofF_key hf
   rcases h3 a ha with h0 | h0
   · exact absurd (h.symm.trans h0) hu
   · obtain ⟨b, hb, he⟩ := List.mem_map.1 h0
     have h4 := (h2 b hb).1
     rw [he, h] at h4
     rw [h4, ← he]
     exact hb
abbrev nmA : ByteArray := ⟨#[97]⟩
def sT1 : Tr := ⟨[⟨1, 1, 5, [], [⟨nmA, 2⟩], [], 1, 1⟩, ⟨2, 2, 0, [], [], [], 1, 1⟩], 3, []⟩
def sT2 : Tr := ⟨[⟨1, 1, 5, [], [⟨nmA, 2⟩], [], 1, 1⟩, ⟨2, 2, 0, [], [], [⟨1, 0, 3⟩], 1, 2⟩], 3, []⟩
def sT3 : Tr := ⟨[⟨1, 1, 5, [], [⟨nmA, 2⟩], [], 1, 1⟩, ⟨2, 2, 0, [], [], [⟨1, 0, 2⟩, ⟨2, 0, 4⟩], 1, 0⟩], 3, []⟩
theorem sDo1 : (doD LowX (newD 5) ⟨2, 0, nmA, ⟨#[]⟩, 0, 0, 0, []⟩ 1).1 = sT1 := by decide +kernel
theorem sDo2 : (doD LowX sT1 ⟨3, 0, nmA, ⟨#[]⟩, 0, 3, 1, []⟩ 2).1 = sT2 := by decide +kernel
theorem sDo3 : (doD LowX sT2 ⟨3, 0, nmA, ⟨#[]⟩, 2, 4, 2, []⟩ 0).1 = sT3 := by decide +kernel
theorem small0 : (newD 5).small := ⟨by decide, by decide, fun n hn => by rw [List.mem_singleton.1 (show n ∈ [_] from hn)]; exact ⟨by decide, by decide, by decide⟩⟩
theorem small1 : sT1.small := ⟨by decide, by decide, fun n hn => by
 rcases List.mem_cons.1 hn with rfl | hn
 · exact ⟨by decide, by decide, by decide⟩
 · rw [List.mem_singleton.1 hn]; exact ⟨by decide, by decide, by decide⟩⟩
theorem small2 : sT2.small := ⟨by decide, by decide, fun n hn => by
 rcases List.mem_cons.1 hn with rfl | hn
 · exact ⟨by decide, by decide, by decide⟩
 · rw [List.mem_singleton.1 hn]; exact ⟨by decide, by decide, by decide⟩⟩
theorem two_all {α : Type} {P : α → Prop} {a b : α} (ha : P a) (hb : P b) : ∀ n ∈ [a, b], P n := fun n hn => by
 rcases List.mem_cons.1 hn with rfl | hn
 · exact ha
 · rw [List.mem_singleton.1 hn]; exact hb
theorem good_two {L : Low} {v1 v2 : Int} {body : List Pc} (h0 : L.aclOk [] = true) (h1 : L.nameOk nmA = true) (h2 : L.bodyOk body = true) (hv : 0 ≤ v1 ∧ 0 ≤ v2) : Good L ⟨[⟨1, 1, 5, [], [⟨nmA, 2⟩], [], 1, v1⟩, ⟨2, 2, 0, [], [], body, 1, v2⟩], 3, []⟩ where
 srt := by simp [Srt]
 kinds := two_all (.inl rfl) (.inr rfl)
 low := two_all ⟨by dsimp only; decide, by dsimp only; decide⟩ ⟨by dsimp only; decide, by dsimp only; decide⟩
 len := by simp
 root := rfl
 self := two_all ⟨by dsimp only; decide, by dsimp only; decide, h0, hv.1⟩ ⟨by dsimp only; decide, by dsimp only; decide, h0, hv.2⟩
 dir := two_all (fun _ => ⟨rfl, rfl⟩) (fun h => absurd h (by dsimp only; decide))
 file := two_all (fun h => absurd h (by dsimp only; decide)) (fun _ => ⟨rfl, h2, rfl⟩)
 names := two_all ⟨List.pairwise_singleton _ _, fun e he => by rw [List.mem_singleton.1 he]; exact h1⟩ ⟨List.Pairwise.nil, fun e he => by cases he⟩
 tgt := two_all (fun e he => by rw [List.mem_singleton.1 he]; exact ⟨by dsimp only; decide, (show (2 : Int) ≠ 0 by decide)⟩) (fun e he => by cases he)
 once := fun id hk hne => by
  exfalso
  unfold nodeD at hk
  by_cases e2 : id = 2
  · subst e2
    exact absurd hk (show (2 : Int) ≠ 1 by decide)
  · have e1 : ((1 : Int) == id) = false := by simp; omega
    have e3 : ((2 : Int) == id) = false := by simp; omega
    rw [List.find?_cons, e1, List.find?_cons, e3] at hk
    exact absurd hk (show (0 : Int) ≠ 1 by decide)
 rank := ⟨fun _ => 0, rfl, two_all (fun e he => by
  rw [List.mem_singleton.1 he]
  exact ⟨by dsimp only; decide, fun h => absurd h (show (2 : Int) ≠ 1 by decide)⟩) (fun e he => by cases he)⟩
 lost := two_all (fun h => absurd h (by dsimp only; decide)) (fun _ h => absurd h (show (1 : Int) ≠ 0 by decide))
 osrt := List.Pairwise.nil
 olen := by simp
 oto := fun o ho => by cases ho
theorem sGood2 : Good LowX sT2 := good_two rfl (by decide +kernel) (by decide +kernel) (by decide)
theorem sGood3 : Good LowX sT3 := good_two rfl (by decide +kernel) (by decide +kernel) (by decide)
def sA2 : List (Int × Us) := [(0, (1, 3)), (5, (1, 0))]
def sA3 : List (Int × Us) := [(0, (1, 6)), (5, (1, 0))]
theorem sUse2 : sT2.nodes.map (nuse LowX) = [(5, (1, 0)), (0, (1, 3))] := by decide +kernel
theorem sUse3 : sT3.nodes.map (nuse LowX) = [(5, (1, 0)), (0, (1, 6))] := by decide +kernel
theorem sAcc2 : AccL sA2 (totF (ofF (sT2.nodes.map (nuse LowX)))) := by
 rw [sUse2]; exact acc_dec (by decide +kernel) (by decide +kernel) (by decide +kernel)
theorem sAcc3 : AccL sA3 (totF (ofF (sT3.nodes.map (nuse LowX)))) := by
 rw [sUse3]; exact acc_dec (by decide +kernel) (by decide +kernel) (by decide +kernel)
theorem sAccD : AccL [(0, (0, 3))] (totF (ofF (sA3 ++ sA2.map negU))) := acc_dec (by decide +kernel) (by decide +kernel) (by decide +kernel)
theorem sDelta {l lA lB : List (Int × Us)} (hA : AccL lA (totF (ofF (sT3.nodes.map (nuse LowX))))) (hB : AccL lB (totF (ofF (sT2.nodes.map (nuse LowX))))) (h : AccL l (totF (ofF (lA ++ lB.map negU)))) : l = [(0, (0, 3))] := by
 rw [hA.one sAcc3, hB.one sAcc2] at h
 exact h.one sAccD
theorem sRaw : rawB sT2 = [(1048576, 1048579)] := by decide +kernel
theorem sBound : HBound [sT2, sT2] := by
 refine bound_ok (P := 1) (fun t ht => ?_) (by decide)
 rw [show t = sT2 from by rcases List.mem_cons.1 ht with h | h; exact h; exact List.mem_singleton.1 h, sRaw]
 exact ⟨by decide, fun r hr => by rw [List.mem_singleton.1 hr]; decide⟩
theorem heldTo_inv {ts : List Tr} {held : List Int} {seen : List Rn} (h : HeldTo ts held seen) : (ts = [] ∧ held = [] ∧ seen = []) ∨ ∃ ts' t held' seen' l' l2, ts = ts' ++ [t] ∧ HeldTo ts' held' seen' ∧ l'.Perm (rawB t) ∧ l2.Perm (seen' ++ cutF (joinF l') seen') ∧ held = held' ++ [lenR (cutF (joinF l') seen')] ∧ seen = joinF l2 := by
 cases h with
 | nil => exact .inl ⟨rfl, rfl, rfl⟩
 | snoc h hp hs hp2 hs2 => exact .inr ⟨_, _, _, _, _, _, rfl, h, hp, hp2, rfl, rfl⟩
theorem sHeld {held : List Int} {seen : List Rn} (h : HeldTo [sT2, sT2] held seen) : held = [3, 0] := by
 rcases heldTo_inv h with ⟨h0, _⟩ | ⟨ts, t, held1, seen1, l', l2, e0, h1, p1, p2, rfl, rfl⟩
 · cases h0
 obtain ⟨e1, e2⟩ := List.append_inj' (show [sT2] ++ [sT2] = ts ++ [t] from e0) rfl
 injection e2 with e2
 subst e1 e2
 rcases heldTo_inv h1 with ⟨h0, _⟩ | ⟨ts', t', held2, seen2, k', k2, e0', h2, q1, q2, rfl, rfl⟩
 · cases h0
 obtain ⟨e1, e2⟩ := List.append_inj' (show [] ++ [sT2] = ts' ++ [t'] from e0') rfl
 injection e2 with e2
 subst e1 e2
 rcases heldTo_inv h2 with ⟨_, rfl, rfl⟩ | ⟨ts'', t'', held3, seen3, m', m2, e0'', _⟩
 · rw [sRaw] at p1 q1
   rw [List.perm_singleton.1 p1, List.perm_singleton.1 q1] at *
   have h3 : cutF (joinF [((1048576, 1048579) : Rn)]) [] = [(1048576, 1048579)] := by decide +kernel
   rw [h3] at q2 ⊢
   rw [List.perm_singleton.1 (show k2.Perm [(1048576, 1048579)] from q2)]
   decide +kernel
 · exact absurd e0'' (by simp)
theorem sFit1 : fitsL sA2 [(0, (5, 5))] = true := by decide +kernel
theorem sFit2 : fitsL sA2 [(-1, (0, 0))] = false := by decide +kernel
theorem sAll : allU sA2 = (2, 3) := by decide +kernel
theorem sGet : getU sA2 5 = (1, 0) := by decide +kernel
end Go.Proofs.YtemgejblnionlaaGreatDoor
namespace Go.Proofs.YtemgejblnionlaaGreatDoor
open Go.RowKit Go.Maps
set_option maxHeartbeats 16000000
set_option maxRecDepth 100000
structure TwoA (w : World) (t : TypeId) (zero : Array Value) (row : Value → Array Value) (PA PB : Value → World → Prop) (f : Nat → Value) (q : Nat → Bool) (W : World) : Prop where
 low : Below w.heap.size w W
 lA : q 3 = true → PA (f 3) W
 lB : q 7 = true → PB (f 7) W
 l1 : q 8 = true → ∃ b c, f 8 = .pointer (some ⟨b, 0, none⟩) ∧ w.heap.size ≤ b ∧ W.heap[b]? = some (.cells c t (0, 0)) ∧ c.size = zero.size ∧ (q 10 = true → c = row (f 3))
 l2 : q 9 = true → ∃ b c, f 9 = .pointer (some ⟨b, 0, none⟩) ∧ w.heap.size ≤ b ∧ W.heap[b]? = some (.cells c t (0, 0)) ∧ c.size = zero.size ∧ (q 11 = true → c = row (f 7))
 ne : q 8 = true → q 9 = true → ∀ b b', f 8 = .pointer (some ⟨b, 0, none⟩) → f 9 = .pointer (some ⟨b', 0, none⟩) → b ≠ b'
 o1 : q 10 = true → q 3 = true ∧ q 7 = true ∧ q 8 = true
 o2 : q 11 = true → q 10 = true ∧ q 9 = true
section
variable {w W W' : World} {t : TypeId} {zero : Array Value} {row : Value → Array Value} {PA PB : Value → World → Prop} {f : Nat → Value} {q : Nat → Bool}
theorem TwoA.none_ (h : Below w.heap.size w W) (f : Nat → Value) : TwoA w t zero row PA PB f (fun _ => false) W :=
 ⟨h, (fun h => by cases h), (fun h => by cases h), (fun h => by cases h), (fun h => by cases h), (fun h => by cases h), (fun h => by cases h), (fun h => by cases h)⟩
theorem TwoA.callA (I : TwoA w t zero row PA PB f q W) (hn : q 10 = false) (hb : Below W.heap.size W W') (hPB : ∀ v, PB v W → PB v W') {v : Value} (hv : PA v W') : TwoA w t zero row PA PB (upd f 3 v) (updB q 3) W' where
 low := I.low.trans (hb.mono I.low.size)
 lA := fun _ => hv
 lB := fun k => hPB _ (I.lB k)
 l1 := fun k => by
  obtain ⟨b, c, h1, h2, h3, h4, h5⟩ := I.l1 k
  exact ⟨b, c, h1, h2, (hb.block _ (Array.getElem?_eq_some_iff.1 h3).1).trans h3, h4, fun h => by rw [show updB q 3 10 = q 10 from rfl, hn] at h; cases h⟩
 l2 := fun k => by
  obtain ⟨b, c, h1, h2, h3, h4, h5⟩ := I.l2 k
  exact ⟨b, c, h1, h2, (hb.block _ (Array.getElem?_eq_some_iff.1 h3).1).trans h3, h4, fun h => h5 h⟩
 ne := fun k1 k2 => I.ne k1 k2
 o1 := fun k => ⟨rfl, (I.o1 k).2⟩
 o2 := fun k => I.o2 k
theorem TwoA.callB (I : TwoA w t zero row PA PB f q W) (hn : q 10 = false) (hb : Below W.heap.size W W') (hPA : ∀ v, PA v W → PA v W') {v : Value} (hv : PB v W') : TwoA w t zero row PA PB (upd f 7 v) (updB q 7) W' where
 low := I.low.trans (hb.mono I.low.size)
 lA := fun k => hPA _ (I.lA k)
 lB := fun _ => hv
 l1 := fun k => by
  obtain ⟨b, c, h1, h2, h3, h4, h5⟩ := I.l1 k
  exact ⟨b, c, h1, h2, (hb.block _ (Array.getElem?_eq_some_iff.1 h3).1).trans h3, h4, fun h => h5 h⟩
 l2 := fun k => by
  obtain ⟨b, c, h1, h2, h3, h4, h5⟩ := I.l2 k
  exact ⟨b, c, h1, h2, (hb.block _ (Array.getElem?_eq_some_iff.1 h3).1).trans h3, h4, fun h => by have := (I.o2 h).1; rw [hn] at this; cases this⟩
 ne := fun k1 k2 => I.ne k1 k2
 o1 := fun k => ⟨(I.o1 k).1, rfl, (I.o1 k).2.2⟩
 o2 := fun k => I.o2 k
theorem TwoA.new1 (I : TwoA w t zero row PA PB f q W) (hn : q 10 = false) (hPA : ∀ v, PA v W → PA v (W.alloc (.cells zero t))) (hPB : ∀ v, PB v W → PB v (W.alloc (.cells zero t))) : TwoA w t zero row PA PB (upd f 8 (.pointer (some ⟨W.heap.size, 0, none⟩))) (updB q 8) (W.alloc (.cells zero t)) where
 low := I.low.alloc I.low.size _
 lA := fun k => hPA _ (I.lA k)
 lB := fun k => hPB _ (I.lB k)
 l1 := fun _ => ⟨W.heap.size, zero, rfl, I.low.size, heap_alloc_new W _, rfl, fun h => by rw [show updB q 8 10 = q 10 from rfl, hn] at h; cases h⟩
 l2 := fun k => by
  obtain ⟨b, c, h1, h2, h3, h4, h5⟩ := I.l2 k
  exact ⟨b, c, h1, h2, (((Below.refl _ W).alloc (Nat.le_refl _) _).block _ (Array.getElem?_eq_some_iff.1 h3).1).trans h3, h4, fun h => h5 h⟩
 ne := fun _ k2 b b' e1 e2 => by
  obtain ⟨b3, c, h1, h2, h3, -⟩ := I.l2 k2
  have e3 : b = W.heap.size := by injection e1 with e1; injection e1 with e1; injection e1 with e1; exact e1.symm
  have e4 : b' = b3 := by have := e2.symm.trans h1; injection this with this; injection this with this; injection this
  have := (Array.getElem?_eq_some_iff.1 h3).1
  omega
 o1 := fun k => ⟨(I.o1 k).1, (I.o1 k).2.1, rfl⟩
 o2 := fun k => I.o2 k
theorem TwoA.new2 (I : TwoA w t zero row PA PB f q W) (hn : q 11 = false) (hPA : ∀ v, PA v W → PA v (W.alloc (.cells zero t))) (hPB : ∀ v, PB v W → PB v (W.alloc (.cells zero t))) : TwoA w t zero row PA PB (upd f 9 (.pointer (some ⟨W.heap.size, 0, none⟩))) (updB q 9) (W.alloc (.cells zero t)) where
 low := I.low.alloc I.low.size _
 lA := fun k => hPA _ (I.lA k)
 lB := fun k => hPB _ (I.lB k)
 l1 := fun k => by
  obtain ⟨b, c, h1, h2, h3, h4, h5⟩ := I.l1 k
  exact ⟨b, c, h1, h2, (((Below.refl _ W).alloc (Nat.le_refl _) _).block _ (Array.getElem?_eq_some_iff.1 h3).1).trans h3, h4, fun h => h5 h⟩
 l2 := fun _ => ⟨W.heap.size, zero, rfl, I.low.size, heap_alloc_new W _, rfl, fun h => by rw [show updB q 9 11 = q 11 from rfl, hn] at h; cases h⟩
 ne := fun k1 _ b b' e1 e2 => by
  obtain ⟨b3, c, h1, h2, h3, -⟩ := I.l1 k1
  have e3 : b' = W.heap.size := by injection e2 with e2; injection e2 with e2; injection e2 with e2; exact e2.symm
  have e4 : b = b3 := by have := e1.symm.trans h1; injection this with this; injection this with this; injection this
  have := (Array.getElem?_eq_some_iff.1 h3).1
  omega
 o1 := fun k => I.o1 k
 o2 := fun k => ⟨(I.o2 k).1, rfl⟩
theorem TwoA.put1 (I : TwoA w t zero row PA PB f q W) (dA : q 3 = true) (dB : q 7 = true) (d1 : q 8 = true) {b : Nat} (hf : f 8 = .pointer (some ⟨b, 0, none⟩)) (hPA : ∀ v, PA v W → PA v (W.setRow b (row (f 3)))) (hPB : ∀ v, PB v W → PB v (W.setRow b (row (f 3)))) (hz : (row (f 3)).size = zero.size) (v : Value) : TwoA w t zero row PA PB (upd f 10 v) (updB q 10) (W.setRow b (row (f 3))) := by
 obtain ⟨b1, c1, h1, h2, h3, h4, h5⟩ := I.l1 d1
 have eb : b = b1 := by have := hf.symm.trans h1; injection this with this; injection this with this; injection this
 subst eb
 exact {
  low := below_setRow I.low h2 _
  lA := fun k => hPA _ (I.lA k)
  lB := fun k => hPB _ (I.lB k)
  l1 := fun _ => ⟨b, row (f 3), h1, h2, setRow_heap _ _ _ _ _ _ h3, hz, fun _ => rfl⟩
  l2 := fun k => by
   obtain ⟨b2, c2, g1, g2, g3, g4, g5⟩ := I.l2 k
   exact ⟨b2, c2, g1, g2, (setRow_other _ _ _ _ (I.ne d1 k b b2 h1 g1).symm).trans g3, g4, fun h => g5 h⟩
  ne := fun k1 k2 => I.ne k1 k2
  o1 := fun _ => ⟨dA, dB, d1⟩
  o2 := fun k => ⟨rfl, (I.o2 k).2⟩ }
theorem TwoA.put2 (I : TwoA w t zero row PA PB f q W) (dS : q 10 = true) (d2 : q 9 = true) {b : Nat} (hf : f 9 = .pointer (some ⟨b, 0, none⟩)) (hPA : ∀ v, PA v W → PA v (W.setRow b (row (f 7)))) (hPB : ∀ v, PB v W → PB v (W.setRow b (row (f 7)))) (hz : (row (f 7)).size = zero.size) (v : Value) : TwoA w t zero row PA PB (upd f 11 v) (updB q 11) (W.setRow b (row (f 7))) := by
 obtain ⟨b1, c1, h1, h2, h3, h4, h5⟩ := I.l2 d2
 have eb : b = b1 := by have := hf.symm.trans h1; injection this with this; injection this with this; injection this
 subst eb
 exact {
  low := below_setRow I.low h2 _
  lA := fun k => hPA _ (I.lA k)
  lB := fun k => hPB _ (I.lB k)
  l1 := fun k => by
   obtain ⟨b2, c2, g1, g2, g3, g4, g5⟩ := I.l1 k
   exact ⟨b2, c2, g1, g2, (setRow_other _ _ _ _ (I.ne k d2 b2 b g1 h1)).trans g3, g4, fun h => g5 h⟩
  l2 := fun _ => ⟨b, row (f 7), h1, h2, setRow_heap _ _ _ _ _ _ h3, hz, fun _ => rfl⟩
  ne := fun k1 k2 => I.ne k1 k2
  o1 := fun k => I.o1 k
  o2 := fun _ => ⟨dS, d2⟩ }
end
structure TwoB (w : World) (t : TypeId) (zero : Array Value) (row : Value → Array Value) (PA PB : Value → World → Prop) (f : Nat → Value) (q : Nat → Bool) (W : World) : Prop where
 low : Below w.heap.size w W
 lA : q 1 = true → PA (f 1) W
 lB : q 3 = true → PB (f 3) W
 l1 : q 4 = true → ∃ b c, f 4 = .pointer (some ⟨b, 0, none⟩) ∧ w.heap.size ≤ b ∧ W.heap[b]? = some (.cells c t (0, 0)) ∧ c.size = zero.size ∧ (q 6 = true → c = row (f 1))
 l2 : q 5 = true → ∃ b c, f 5 = .pointer (some ⟨b, 0, none⟩) ∧ w.heap.size ≤ b ∧ W.heap[b]? = some (.cells c t (0, 0)) ∧ c.size = zero.size ∧ (q 7 = true → c = row (f 3))
 ne : q 4 = true → q 5 = true → ∀ b b', f 4 = .pointer (some ⟨b, 0, none⟩) → f 5 = .pointer (some ⟨b', 0, none⟩) → b ≠ b'
 o1 : q 6 = true → q 1 = true ∧ q 3 = true ∧ q 4 = true
 o2 : q 7 = true → q 6 = true ∧ q 5 = true
section
variable {w W W' : World} {t : TypeId} {zero : Array Value} {row : Value → Array Value} {PA PB : Value → World → Prop} {f : Nat → Value} {q : Nat → Bool}
theorem TwoB.none_ (h : Below w.heap.size w W) (f : Nat → Value) : TwoB w t zero row PA PB f (fun _ => false) W :=
 ⟨h, (fun h => by cases h), (fun h => by cases h), (fun h => by cases h), (fun h => by cases h), (fun h => by cases h), (fun h => by cases h), (fun h => by cases h)⟩
theorem TwoB.callA (I : TwoB w t zero row PA PB f q W) (hn : q 6 = false) (hb : Below W.heap.size W W') (hPB : ∀ v, PB v W → PB v W') {v : Value} (hv : PA v W') : TwoB w t zero row PA PB (upd f 1 v) (updB q 1) W' where
 low := I.low.trans (hb.mono I.low.size)
 lA := fun _ => hv
 lB := fun k => hPB _ (I.lB k)
 l1 := fun k => by
  obtain ⟨b, c, h1, h2, h3, h4, h5⟩ := I.l1 k
  exact ⟨b, c, h1, h2, (hb.block _ (Array.getElem?_eq_some_iff.1 h3).1).trans h3, h4, fun h => by rw [show updB q 1 6 = q 6 from rfl, hn] at h; cases h⟩
 l2 := fun k => by
  obtain ⟨b, c, h1, h2, h3, h4, h5⟩ := I.l2 k
  exact ⟨b, c, h1, h2, (hb.block _ (Array.getElem?_eq_some_iff.1 h3).1).trans h3, h4, fun h => h5 h⟩
 ne := fun k1 k2 => I.ne k1 k2
 o1 := fun k => ⟨rfl, (I.o1 k).2⟩
 o2 := fun k => I.o2 k
theorem TwoB.callB (I : TwoB w t zero row PA PB f q W) (hn : q 6 = false) (hb : Below W.heap.size W W') (hPA : ∀ v, PA v W → PA v W') {v : Value} (hv : PB v W') : TwoB w t zero row PA PB (upd f 3 v) (updB q 3) W' where
 low := I.low.trans (hb.mono I.low.size)
 lA := fun k => hPA _ (I.lA k)
 lB := fun _ => hv
 l1 := fun k => by
  obtain ⟨b, c, h1, h2, h3, h4, h5⟩ := I.l1 k
  exact ⟨b, c, h1, h2, (hb.block _ (Array.getElem?_eq_some_iff.1 h3).1).trans h3, h4, fun h => h5 h⟩
 l2 := fun k => by
  obtain ⟨b, c, h1, h2, h3, h4, h5⟩ := I.l2 k
  exact ⟨b, c, h1, h2, (hb.block _ (Array.getElem?_eq_some_iff.1 h3).1).trans h3, h4, fun h => by have := (I.o2 h).1; rw [hn] at this; cases this⟩
 ne := fun k1 k2 => I.ne k1 k2
 o1 := fun k => ⟨(I.o1 k).1, rfl, (I.o1 k).2.2⟩
 o2 := fun k => I.o2 k
theorem TwoB.new1 (I : TwoB w t zero row PA PB f q W) (hn : q 6 = false) (hPA : ∀ v, PA v W → PA v (W.alloc (.cells zero t))) (hPB : ∀ v, PB v W → PB v (W.alloc (.cells zero t))) : TwoB w t zero row PA PB (upd f 4 (.pointer (some ⟨W.heap.size, 0, none⟩))) (updB q 4) (W.alloc (.cells zero t)) where
 low := I.low.alloc I.low.size _
 lA := fun k => hPA _ (I.lA k)
 lB := fun k => hPB _ (I.lB k)
 l1 := fun _ => ⟨W.heap.size, zero, rfl, I.low.size, heap_alloc_new W _, rfl, fun h => by rw [show updB q 4 6 = q 6 from rfl, hn] at h; cases h⟩
 l2 := fun k => by
  obtain ⟨b, c, h1, h2, h3, h4, h5⟩ := I.l2 k
  exact ⟨b, c, h1, h2, (((Below.refl _ W).alloc (Nat.le_refl _) _).block _ (Array.getElem?_eq_some_iff.1 h3).1).trans h3, h4, fun h => h5 h⟩
 ne := fun _ k2 b b' e1 e2 => by
  obtain ⟨b3, c, h1, h2, h3, -⟩ := I.l2 k2
  have e3 : b = W.heap.size := by injection e1 with e1; injection e1 with e1; injection e1 with e1; exact e1.symm
  have e4 : b' = b3 := by have := e2.symm.trans h1; injection this with this; injection this with this; injection this
  have := (Array.getElem?_eq_some_iff.1 h3).1
  omega
 o1 := fun k => ⟨(I.o1 k).1, (I.o1 k).2.1, rfl⟩
 o2 := fun k => I.o2 k
theorem TwoB.new2 (I : TwoB w t zero row PA PB f q W) (hn : q 7 = false) (hPA : ∀ v, PA v W → PA v (W.alloc (.cells zero t))) (hPB : ∀ v, PB v W → PB v (W.alloc (.cells zero t))) : TwoB w t zero row PA PB (upd f 5 (.pointer (some ⟨W.heap.size, 0, none⟩))) (updB q 5) (W.alloc (.cells zero t)) where
 low := I.low.alloc I.low.size _
 lA := fun k => hPA _ (I.lA k)
 lB := fun k => hPB _ (I.lB k)
 l1 := fun k => by
  obtain ⟨b, c, h1, h2, h3, h4, h5⟩ := I.l1 k
  exact ⟨b, c, h1, h2, (((Below.refl _ W).alloc (Nat.le_refl _) _).block _ (Array.getElem?_eq_some_iff.1 h3).1).trans h3, h4, fun h => h5 h⟩
 l2 := fun _ => ⟨W.heap.size, zero, rfl, I.low.size, heap_alloc_new W _, rfl, fun h => by rw [show updB q 5 7 = q 7 from rfl, hn] at h; cases h⟩
 ne := fun k1 _ b b' e1 e2 => by
  obtain ⟨b3, c, h1, h2, h3, -⟩ := I.l1 k1
  have e3 : b' = W.heap.size := by injection e2 with e2; injection e2 with e2; injection e2 with e2; exact e2.symm
  have e4 : b = b3 := by have := e1.symm.trans h1; injection this with this; injection this with this; injection this
  have := (Array.getElem?_eq_some_iff.1 h3).1
  omega
 o1 := fun k => I.o1 k
 o2 := fun k => ⟨(I.o2 k).1, rfl⟩
theorem TwoB.put1 (I : TwoB w t zero row PA PB f q W) (dA : q 1 = true) (dB : q 3 = true) (d1 : q 4 = true) {b : Nat} (hf : f 4 = .pointer (some ⟨b, 0, none⟩)) (hPA : ∀ v, PA v W → PA v (W.setRow b (row (f 1)))) (hPB : ∀ v, PB v W → PB v (W.setRow b (row (f 1)))) (hz : (row (f 1)).size = zero.size) (v : Value) : TwoB w t zero row PA PB (upd f 6 v) (updB q 6) (W.setRow b (row (f 1))) := by
 obtain ⟨b1, c1, h1, h2, h3, h4, h5⟩ := I.l1 d1
 have eb : b = b1 := by have := hf.symm.trans h1; injection this with this; injection this with this; injection this
 subst eb
 exact {
  low := below_setRow I.low h2 _
  lA := fun k => hPA _ (I.lA k)
  lB := fun k => hPB _ (I.lB k)
  l1 := fun _ => ⟨b, row (f 1), h1, h2, setRow_heap _ _ _ _ _ _ h3, hz, fun _ => rfl⟩
  l2 := fun k => by
   obtain ⟨b2, c2, g1, g2, g3, g4, g5⟩ := I.l2 k
   exact ⟨b2, c2, g1, g2, (setRow_other _ _ _ _ (I.ne d1 k b b2 h1 g1).symm).trans g3, g4, fun h => g5 h⟩
  ne := fun k1 k2 => I.ne k1 k2
  o1 := fun _ => ⟨dA, dB, d1⟩
  o2 := fun k => ⟨rfl, (I.o2 k).2⟩ }
theorem TwoB.put2 (I : TwoB w t zero row PA PB f q W) (dS : q 6 = true) (d2 : q 5 = true) {b : Nat} (hf : f 5 = .pointer (some ⟨b, 0, none⟩)) (hPA : ∀ v, PA v W → PA v (W.setRow b (row (f 3)))) (hPB : ∀ v, PB v W → PB v (W.setRow b (row (f 3)))) (hz : (row (f 3)).size = zero.size) (v : Value) : TwoB w t zero row PA PB (upd f 7 v) (updB q 7) (W.setRow b (row (f 3))) := by
 obtain ⟨b1, c1, h1, h2, h3, h4, h5⟩ := I.l2 d2
 have eb : b = b1 := by have := hf.symm.trans h1; injection this with this; injection this with this; injection this
 subst eb
 exact {
  low := below_setRow I.low h2 _
  lA := fun k => hPA _ (I.lA k)
  lB := fun k => hPB _ (I.lB k)
  l1 := fun k => by
   obtain ⟨b2, c2, g1, g2, g3, g4, g5⟩ := I.l1 k
   exact ⟨b2, c2, g1, g2, (setRow_other _ _ _ _ (I.ne k d2 b2 b g1 h1)).trans g3, g4, fun h => g5 h⟩
  l2 := fun _ => ⟨b, row (f 3), h1, h2, setRow_heap _ _ _ _ _ _ h3, hz, fun _ => rfl⟩
  ne := fun k1 k2 => I.ne k1 k2
  o1 := fun k => I.o1 k
  o2 := fun _ => ⟨dS, d2⟩ }
end
end Go.Proofs.YtemgejblnionlaaGreatDoor
namespace Go.Proofs.YtemgejblnionlaaGreatDoor
open Go.RowKit Go.Maps
set_option maxHeartbeats 16000000
set_option maxRecDepth 100000
def limU (l : List (Int × Us)) (o : Int) : Us := if o = -1 then allU l else getU l o
def blkP (lA lB : List (Int × Us)) (x : Int × Us) : Bool := decide (max (limU lA x.1).1 x.2.1 < (limU lB x.1).1) || decide (max (limU lA x.1).2 x.2.2 < (limU lB x.1).2)
theorem limited_c (A : Option Addr) (n c : Nat) (l : List (Int × Us)) (o : Int) (w : World) (hA : Sv w A n c 3 (encs encU l)) (hn : n ≤ 1000000) :
 Calls Tryz.prog 61 #[.slice A n c, .int .i64 o] w fun e w' => e = .returned (usv (limU l o)) ∧ Below w.heap.size w w' := limited_lands A n c l o w hA hn
def rowA : Value → Array Value
 | .agg cs => cs
 | _ => zG
theorem blocks1_any (b1 b2 : Nat) (A1 A2 : Option Addr) (m1 c1 m2 c2 : Nat) (lA lB : List (Int × Us)) (x : Int × Us) (w : World) (h1 : w.heap[b1]? = some (.cells #[.slice A1 m1 c1] 35 (0, 0))) (h2 : w.heap[b2]? = some (.cells #[.slice A2 m2 c2] 35 (0, 0))) (hA : Sv w A1 m1 c1 3 (encs encU lA)) (hB : Sv w A2 m2 c2 3 (encs encU lB)) (hm1 : m1 ≤ 1000000) (hm2 : m2 ≤ 1000000) :
 Calls Tryz.prog 60 #[.agg (encU x).toArray, .pointer (some ⟨b1, 0, none⟩), .pointer (some ⟨b2, 0, none⟩)] w fun e w' => e = .returned (.bool (blkP lA lB x)) ∧ Below w.heap.size w w' := by
 have kk0 := Bxs.nil w
 obtain ⟨x1, hwx1, hzx1, kx1⟩ := kk0.new rfl (encU x).toArray (encU x).toArray 44
 have HW1 := Lib.hid hwx1
 have K1 := Lib.hid kx1
 have hd : Below x1.heap.size x1 x1.drew := below_drewN x1 1
 have KD := Lib.hid (kx1.step hd)
 clear kk0 hwx1 hzx1 kx1 hd
 have g1 : x1.drew.cell? ⟨b1, 0, none⟩ = some (.slice A1 m1 c1) := cell_of_row _ _ 0 _ _ _ ((KD.out.low.out.block b1 (Array.getElem?_eq_some_iff.1 h1).1).trans h1)
 have g2 : x1.drew.cell? ⟨b2, 0, none⟩ = some (.slice A2 m2 c2) := cell_of_row _ _ 0 _ _ _ ((KD.out.low.out.block b2 (Array.getElem?_eq_some_iff.1 h2).1).trans h2)
 have g3 : x1.drew.cell? ⟨w.heap.size, 0, none⟩ = some (.int .i64 x.1) := KD.out.cell 0 0 _ rfl
 have G := Lib.hid (And.intro g1 (And.intro g2 g3))
 have HA := Lib.hid (hA.below KD.out.low.out)
 have HB := Lib.hid (hB.below KD.out.low.out)
 have HM := Lib.hid (And.intro hm1 hm2)
 clear h1 h2 hA hB hm1 hm2 g1 g2 g3
 obtain ⟨r, hr⟩ : ∃ r, blkP lA lB x = r := ⟨_, rfl⟩
 rw [hr]
 have HR := Lib.hid hr
 clear hr
 show Calls Tryz.prog 60 #[.agg #[.int .i64 x.1, .int .i64 x.2.1, .int .i64 x.2.2], .pointer (some ⟨b1, 0, none⟩), .pointer (some ⟨b2, 0, none⟩)] w _
 have HW1' := Lib.hid (show w.alloc (.cells #[.int .i64 x.1, .int .i64 x.2.1, .int .i64 x.2.2] 44) = x1 from HW1.out)
 go_enter Tryz.func60, Tryz.ntmps60
 go_upto_region 1 with fail
 rw [HW1'.out]
 refine wp_region_fork (fun w' => w'.cell? ⟨b1, 0, none⟩ = some (.slice A1 m1 c1) ∧ w'.cell? ⟨b2, 0, none⟩ = some (.slice A2 m2 c2) ∧ w'.cell? ⟨w.heap.size, 0, none⟩ = some (.int .i64 x.1)) [(0, true), (1, true), (2, true), (4, true), (5, true), (6, true)] 6 #[true, true, true, false, true, true, true, false, false, false, false, false] (by kernel_rfl) (by kernel_rfl) (by rfl) (by kernel_rfl) G.out (fun d _ _ _ _ h => by cases d <;> exact h) ?_
 iterate 6 refine ord_pure ?_
 refine ord_nil (fun _ => ?_)
 generalize x1.drew = wd at *
 refine wp_locM (X := [3, 7, 8, 9, 10, 11]) (fun f => by simp only [putAll, dstOf, List.getElem?_toArray, List.getElem?_cons_succ, List.getElem?_cons_zero, Option.bind_some, Act.put, List.setIfInBounds_toArray, List.set_cons_zero, List.set_cons_succ]; rfl) (TwoA wd 42 zG rowA (fun v _ => v = usv (limU lA x.1)) (fun v _ => v = usv (limU lB x.1))) (by kernel_rfl) (fun f d W I => ⟨(I.low.cell (block_lt_of_cell G.out.1)).trans G.out.1, (I.low.cell (block_lt_of_cell G.out.2.1)).trans G.out.2.1, (I.low.cell (block_lt_of_cell G.out.2.2)).trans G.out.2.2⟩) (fun f => TwoA.none_ (Below.refl _ _) f) ?_ ?_
 · refine ⟨?_, ?_, ?_, ?_, ?_, ?_, trivial⟩
   · intro f q wj I hd hp
     refine ⟨_, rfl, fun K hK => ?_⟩
     have hn : q 10 = false := by
      cases e : q 10 with
      | false => rfl
      | true => exact no_bool hd ((I.o1 e).1)
     have CC := Lib.hid (limited_c A1 m1 c1 lA x.1 wj (HA.out.below I.low) HM.out.1)
     have HI := Lib.hid (And.intro I hn)
     clear hn
     go_simp
     go_wp2_with (go_at_call 61; (with_reducible refine CC.out.mono ?_); rintro e w5 ⟨rfl, hb⟩; have HB5 := Lib.hid hb; clear hb)
     exact hK.out _ (usv (limU lA x.1)) _ (by first | rfl | (simp only [Act.put, puts])) (HI.out.1.callA HI.out.2 HB5.out (fun _ h => h) rfl)
   · intro f q wj I hd hp
     refine ⟨_, rfl, fun K hK => ?_⟩
     have hn : q 10 = false := by
      cases e : q 10 with
      | false => rfl
      | true => exact no_bool hd ((I.o1 e).2.1)
     have CC := Lib.hid (limited_c A2 m2 c2 lB x.1 wj (HB.out.below I.low) HM.out.2)
     have HI := Lib.hid (And.intro I hn)
     clear hn
     go_simp
     go_wp2_with (go_at_call 61; (with_reducible refine CC.out.mono ?_); rintro e w5 ⟨rfl, hb⟩; have HB5 := Lib.hid hb; clear hb)
     exact hK.out _ (usv (limU lB x.1)) _ (by first | rfl | (simp only [Act.put, puts])) (HI.out.1.callB HI.out.2 HB5.out (fun _ h => h) rfl)
   · intro f q wj I hd hp
     refine ⟨_, rfl, fun K hK => ?_⟩
     have hn : q 10 = false := by
      cases e : q 10 with
      | false => rfl
      | true => exact no_bool hd ((I.o1 e).2.2)
     have HI := Lib.hid (And.intro I hn)
     clear hn
     go_simp
     exact hK.out _ (.pointer (some ⟨wj.heap.size, 0, none⟩)) _ (by first | rfl | (simp only [Act.put, puts])) (HI.out.1.new1 HI.out.2 (fun _ h => h) (fun _ h => h))
   · intro f q wj I hd hp
     refine ⟨_, rfl, fun K hK => ?_⟩
     have hn : q 11 = false := by
      cases e : q 11 with
      | false => rfl
      | true => exact no_bool hd ((I.o2 e).2)
     have HI := Lib.hid (And.intro I hn)
     clear hn
     go_simp
     exact hK.out _ (.pointer (some ⟨wj.heap.size, 0, none⟩)) _ (by first | rfl | (simp only [Act.put, puts])) (HI.out.1.new2 HI.out.2 (fun _ h => h) (fun _ h => h))
   · intro f q wj I hd hp
     refine ⟨_, rfl, fun K hK => ?_⟩
     have d3 := hp 3 (by decide +kernel) (by decide)
     have d7 := hp 7 (by decide +kernel) (by decide)
     have d8 := hp 8 (by decide +kernel) (by decide)
     have e3 := I.lA d3
     obtain ⟨b, c, e8, h2, h3, h4, h5⟩ := I.l1 d8
     have I2 := I.put1 d3 d7 d8 e8 (fun _ h => h) (fun _ h => h) (by rw [e3]; rfl) undef
     rw [e3] at I2
     simp only [e3, e8]
     refine wp_store_row 42 _ _ rfl b (urow (limU lA x.1)) rfl rfl 42 c h3 (by kernel_rfl) h4 (by simp [Value.oneCell']) ?_
     exact hK.out _ undef _ (by first | rfl | (simp only [Act.put, puts, e3, e8])) I2
   · intro f q wj I hd hp
     refine ⟨_, rfl, fun K hK => ?_⟩
     have d7 := hp 7 (by decide +kernel) (by decide)
     have d10 := hp 10 (by decide +kernel) (by decide)
     have d9 := hp 9 (by decide +kernel) (by decide)
     have e7 := I.lB d7
     obtain ⟨b, c, e9, h2, h3, h4, h5⟩ := I.l2 d9
     have I2 := I.put2 d10 d9 e9 (fun _ h => h) (fun _ h => h) (by rw [e7]; rfl) undef
     rw [e7] at I2
     simp only [e7, e9]
     refine wp_store_row 42 _ _ rfl b (urow (limU lB x.1)) rfl rfl 42 c h3 (by kernel_rfl) h4 (by simp [Value.oneCell']) ?_
     exact hK.out _ undef _ (by first | rfl | (simp only [Act.put, puts, e7, e9])) I2
 · intro f q wj I hall
   obtain ⟨b, c, e8, h2, h3, h4, h5⟩ := I.l1 (hall 8 (by decide))
   obtain ⟨b', c', e9, h2', h3', h4', h5'⟩ := I.l2 (hall 9 (by decide))
   have e3 := I.lA (hall 3 (by decide))
   have e7 := I.lB (hall 7 (by decide))
   have k1 := h5 (hall 10 (by decide))
   have k2 := h5' (hall 11 (by decide))
   rw [e3] at k1
   rw [e7] at k2
   rw [k1] at h3
   rw [k2] at h3'
   simp only [e8, e9]
   obtain ⟨u, hu⟩ : ∃ u, limU lA x.1 = u := ⟨_, rfl⟩
   obtain ⟨v, hv⟩ : ∃ u, limU lB x.1 = u := ⟨_, rfl⟩
   rw [hu] at h3
   rw [hv] at h3'
   have KJ := Lib.hid (KD.out.step I.low)
   have q1 : wj.cell? ⟨b, 0, none⟩ = some (.int .i64 u.1) := cell_of_row _ _ 0 _ _ _ h3
   have q2 : wj.cell? ⟨b, 1, none⟩ = some (.int .i64 u.2) := cell_of_row _ _ 1 _ _ _ h3
   have q3 : wj.cell? ⟨b', 0, none⟩ = some (.int .i64 v.1) := cell_of_row _ _ 0 _ _ _ h3'
   have q4 : wj.cell? ⟨b', 1, none⟩ = some (.int .i64 v.2) := cell_of_row _ _ 1 _ _ _ h3'
   have q5 : wj.cell? ⟨w.heap.size, 1, none⟩ = some (.int .i64 x.2.1) := KJ.out.cell 0 1 _ rfl
   have q6 : wj.cell? ⟨w.heap.size, 2, none⟩ = some (.int .i64 x.2.2) := KJ.out.cell 0 2 _ rfl
   have HRR := Lib.hid (show (decide (max u.1 x.2.1 < v.1) || decide (max u.2 x.2.2 < v.2)) = r by rw [← HR.out]; unfold blkP; rw [hu, hv])
   clear I hall h2 h3 h4 h5 h2' h3' h4' h5' e8 e9 e3 e7 k1 k2 hu hv
   obtain ⟨u1, u2⟩ := u
   obtain ⟨v1, v2⟩ := v
   obtain ⟨xo, xn, xb⟩ := x
   dsimp only at q1 q2 q3 q4 q5 q6 HRR
   by_cases h1 : max u1 xn < v1
   · have HQ := Lib.hid (show r = true by rw [← HRR.out, decide_eq_true h1]; rfl)
     by_cases hm : u1 < xn
     · have h2 : xn < v1 := by omega
       clear h1
       go_wp2
       go_ret
       exact ⟨by rw [HQ.out]; rfl, KJ.out.low.out⟩
     · have h2 : u1 < v1 := by omega
       clear h1
       go_wp2
       go_ret
       exact ⟨by rw [HQ.out]; rfl, KJ.out.low.out⟩
   · by_cases h3 : max u2 xb < v2
     · have HQ := Lib.hid (show r = true by rw [← HRR.out, decide_eq_true h3, Bool.or_true])
       by_cases hm : u1 < xn
       · have h2 : ¬ (xn < v1) := by omega
         by_cases hm2 : u2 < xb
         · have h4 : xb < v2 := by omega
           go_wp2
           go_ret
           exact ⟨by rw [HQ.out]; rfl, KJ.out.low.out⟩
         · have h4 : u2 < v2 := by omega
           go_wp2
           go_ret
           exact ⟨by rw [HQ.out]; rfl, KJ.out.low.out⟩
       · have h2 : ¬ (u1 < v1) := by omega
         by_cases hm2 : u2 < xb
         · have h4 : xb < v2 := by omega
           go_wp2
           go_ret
           exact ⟨by rw [HQ.out]; rfl, KJ.out.low.out⟩
         · have h4 : u2 < v2 := by omega
           go_wp2
           go_ret
           exact ⟨by rw [HQ.out]; rfl, KJ.out.low.out⟩
     · have HQ := Lib.hid (show r = false by rw [← HRR.out, decide_eq_false h1, decide_eq_false h3]; rfl)
       by_cases hm : u1 < xn
       · have h2 : ¬ (xn < v1) := by omega
         by_cases hm2 : u2 < xb
         · have h4 : ¬ (xb < v2) := by omega
           go_wp2
           go_ret
           exact ⟨by rw [HQ.out]; rfl, KJ.out.low.out⟩
         · have h4 : ¬ (u2 < v2) := by omega
           go_wp2
           go_ret
           exact ⟨by rw [HQ.out]; rfl, KJ.out.low.out⟩
       · have h2 : ¬ (u1 < v1) := by omega
         by_cases hm2 : u2 < xb
         · have h4 : ¬ (xb < v2) := by omega
           go_wp2
           go_ret
           exact ⟨by rw [HQ.out]; rfl, KJ.out.low.out⟩
         · have h4 : ¬ (u2 < v2) := by omega
           go_wp2
           go_ret
           exact ⟨by rw [HQ.out]; rfl, KJ.out.low.out⟩
end Go.Proofs.YtemgejblnionlaaGreatDoor
