import PyProof.Rows.All
import Wide.All
import OpenK.AllK
import Wide.FinOn
import HandS.ForMost
import HandS.Codes
import HandS.IsInst
import PyProof.ListStr
import HandS.Rev
import HandS.TupAny
import HandS.Lambda
import HandS.ForExc
import HandS.TryOnly
import HandS.ExcIs
import HandS.Deep
import HandS.Flow
import HandS.Base
import HandS.Call
import HandS.List
import HandS.Ends
import HandS.Words
import HandS.Set
import HandS.SetFor
import HandS.More
import HandS.Star
import HandS.CallLocal
import HandS.SetBool
import PyProof.Rows.StrMeet
import KE.KSortKey
import HandS.SortKw
import HandS.OwnEq
import KE.KLam
import PyProof.WalkInts
import HandS.HeadWalk
import HandS.HeadHook1
import HandS.EndTab
import PySem.Challenge.RW_treesays_k03_variables_and_rules
set_option Elab.async false
set_option linter.all false
set_option maxRecDepth 100000
set_option maxHeartbeats 2000000
namespace K03
open PySem PySem.Spec PyProof.Rows L2
/-! ### the text -/
def top (i : Nat) : Stmt := PySem.Challenge.pw_treesays_k03_variables_and_rules.main.body.getD i (.Pass ⟨0, 0, 0, 0⟩)
theorem same_new {H : Hp} {p : Addr} {o : HO} (h : H p = none) : Same H (upd H p o) := fun b u q => by rw [upd_ne (ne_of_none q h)]; exact q
theorem same_fresh {H H1 : Hp} {D : Addr} {o : HO} (hD : H D = none) (g : Same H H1) : Same H (upd H1 D o) := fun b u q => by rw [upd_ne (ne_of_none q hD)]; exact g b u q
theorem yes_turn {σ : L2.St} {H : Hp} {A B : Hp → Prop} (h : A H) : tYes σ H fun b H3 => if b = true then A H3 else B H3 := by
  show if true = true then A H else B H
  rw [if_pos rfl]
  exact h
theorem small {n : Nat} (h : n ≤ 1000) : n ≤ sizeLine := Nat.le_of_lt (small1000 h)
/-! ### the tape -/
abbrev sTape : Stmt := top 28
abbrev sTake : Stmt := top 29
theorem scTape : FnScope ["script", "cell", "cells", "seed"] ["script"] (defScope sTape) := ⟨rfl, rfl, rfl, by decide +kernel, rfl, by decide +kernel, by decide +kernel⟩
theorem scTake : FnScope ["tape", "many", "drawn", "mixed"] ["tape", "many"] (defScope sTake) := ⟨rfl, rfl, rfl, by decide +kernel, rfl, by decide +kernel, by decide +kernel⟩
/-- a tape at t: whatever it holds, it may be drawn from -/
structure TapeAt (H : Hp) (t : Addr) (kvs : List (Key × V)) (c : Addr) : Prop where
  dict : H t = some (.dK kvs)
  len : kvs.length ≤ 5
  cells : valV kvs (Sum.inr "cells") = some (.ref c)
  list : ∃ ns : List Int, H c = some (.lst (ns.map V.int)) ∧ ns.length ≤ 1000
  «at» : ∃ z : Int, valV kvs (Sum.inr "at") = some (.int z) ∧ 0 ≤ z
  left : ∃ z : Int, valV kvs (Sum.inr "left") = some (.int z)
  seed : ∃ z : Int, valV kvs (Sum.inr "seed") = some (.int z)
  salt : ∃ z : Int, valV kvs (Sum.inr "salt") = some (.int z)
def TapeOk (H : Hp) (t : Addr) : Prop := ∃ kvs c, TapeAt H t kvs c
def spTape (K : PySem.W.Frag) : Sp := fun vs H Q _ => ∃ (a : Addr) (ns : List Int), vs = [.ref a] ∧ SqL K H a (ns.map V.int) ∧ ns.length ≤ 63 ∧ ∀ H' t, Same H H' → H t = none → TapeOk H' t → Q (.ref t) H'
section
variable {P : Program} {w : World} {K : PySem.W.Frag} {mg : Str → Option Value} {base : Heap}
theorem ok_tape {f : Addr} {fd : FuncData} {k : Nat} (F : Fun K "_law_tape" "_law_tape" sTape f fd) (ma : mg "abs" = none) (mi : mg "int" = none) : FnOk P w K mg base CX0 (k + 1) f fd ["script"] (spTape K) := by
  refine F.ok scTape (fun vs H Q E h => ?_) (fun cdv A outer s H vs Q E hr h => ?_)
  · obtain ⟨a, ns, rfl, _⟩ := h
    rfl
  obtain ⟨a, ns, rfl, hS, hlen, q⟩ := h
  have hu := hu_of hr
  refine ⟨_, pss_cons (ps_setLc (i := 2) (own := [("cell", 1)]) (g := gName 1) (tt := tYes) rfl scTape.nd rfl rfl (sw_true rfl rfl rfl (by decide +kernel)) (pi_list (pv 0))
      (blkOk_by (own := [("cell", 1)]) (N := ["script", "cell", "cells", "seed"]) (sc := defScope sTape) (by decide +kernel)) (fun _ _ _ _ _ => pg_name (i := 1) scTape.nd rfl (Or.inl rfl)) (fun _ _ _ _ _ => pts_nil)
      (fun _ _ _ _ _ => pe_callB call_abs (by rfl) ma (by decide +kernel) (pa_cons (pe_callTy call_int1 (by rfl) mi (by decide +kernel) (pa_cons (pv 1) pa_nil)) pa_nil)))
    (pss_cons (ps_set (i := 3) scTape.nd rfl (Or.inl rfl) pe_int)
    (pss_cons (ps_for PassesOwn.never rfl (pi_list (pv 2)) (pg_name (i := 1) scTape.nd rfl (Or.inl rfl))
      (pss_one (ps_set (i := 3) scTape.nd rfl (Or.inl rfl) (pe_op op_modN (pe_callTy call_int1 (by rfl) mi (by decide +kernel) (pa_cons (pe_op op_add (pe_op op_mul (pv 3) pe_int) (pv 1)) pa_nil)) pe_int))))
    (pss_one (ps_ret (pe_disp (pps_cons pe_str (pv 2) (pps_cons pe_str pe_int (pps_cons pe_str pe_int (pps_cons pe_str (pv 3) (pps_cons pe_str pe_int pps_nil))))) (by rfl) (by rfl) (fun z => by cases z) (by decide)))))), ?_⟩
  refine ⟨.ref a, rfl, a, rfl, ⟨_, hS⟩, fun D hD => ?_⟩
  have g0 : Same H (upd H D (.lst [])) := same_new hD
  refine lc_list (K := K) (a := a) (xs := ns.map V.int) (fun i H1 => ∃ ms : List Int, ms.length = i ∧ Same H H1 ∧ H1 D = some (.lst (ms.map V.int))) ⟨[], rfl, g0, upd_same⟩ (fun i H1 hi p => ?_) (fun i x H1 hx p => ?_) fun H1 p => ?_
  · obtain ⟨ms, e, g, e2⟩ := p
    exact g.seq hS
  · obtain ⟨ms, e, g, e2⟩ := p
    have hi := (List.getElem?_eq_some_iff.mp hx).1
    rw [List.length_map] at hi
    obtain ⟨z, rfl⟩ : ∃ z, x = V.int z := by
      rw [List.getElem?_map] at hx
      cases hq : ns[i]? with
      | none => rw [hq] at hx; cases hx
      | some z => rw [hq] at hx; exact ⟨z, (Option.some.inj hx).symm⟩
    refine ⟨rfl, yes_turn ?_⟩
    refine ⟨V.int z, rfl, .inl ⟨z, rfl, z, rfl, _, e2, by rw [List.length_map]; exact Nat.lt_of_le_of_lt (show ms.length ≤ 63 by omega) (small1000 (by omega)), ms ++ [if z < 0 then -z else z], by rw [List.length_append, e] <;> rfl, same_fresh hD g, ?_⟩⟩
    rw [upd_same, List.map_append] <;> rfl
  · obtain ⟨ms, e, g, e2⟩ := p
    rw [List.length_map] at e
    refine ⟨.ref D, rfl, D, rfl, ⟨_, SqL.of e2⟩, ?_⟩
    refine for_list (xs := ms.map V.int) (fun i σ H2 => ∃ (y : Option V) (z : Int), σ = [some (.ref a), y, some (.ref D), some (.int z)] ∧ H2 = H1) ⟨none, 7, rfl, rfl⟩ (fun i σ H2 hi p => ?_) (fun i x σ H2 hx p => ?_) fun σ H2 p => ?_
    · obtain ⟨y, z, rfl, rfl⟩ := p
      exact SqL.of e2
    · obtain ⟨y, z, rfl, rfl⟩ := p
      obtain ⟨z2, rfl⟩ : ∃ z, x = V.int z := by
        rw [List.getElem?_map] at hx
        cases hq : ms[i]? with
        | none => rw [hq] at hx; cases hx
        | some z => rw [hq] at hx; exact ⟨z, (Option.some.inj hx).symm⟩
      refine ⟨V.int z, rfl, _, _, rfl, rfl, .inr ⟨by decide, by decide⟩, V.int z2, rfl, _, _, rfl, rfl, .inl ⟨_, rfl, _, _, rfl, rfl, (by show (2147483647 : Int) ≠ 0; decide), _, _, rfl, rfl⟩⟩
    · obtain ⟨y, z, rfl, rfl⟩ := p
      refine fun t ht => ?_
      have ht0 : H t = none := g.free ht
      have hDt : D ≠ t := ne_of_none e2 ht
      refine ⟨.ref D, rfl, .int z, rfl, upd_same, [(Sum.inr "cells", .ref D), (Sum.inr "at", .int 0), (Sum.inr "left", .int 0), (Sum.inr "seed", .int z), (Sum.inr "salt", .int 0)], rfl, (by show 5 ≤ 15; decide), ?_⟩
      refine q _ t (same_fresh ht0 (same_fresh ht0 g)) ht0 ⟨_, D, upd_same, (by show 5 ≤ 5; decide), rfl, ⟨ms, by rw [upd_ne hDt, upd_ne hDt]; exact e2, by omega⟩, ⟨0, rfl, Int.le_refl 0⟩, ⟨0, rfl⟩, ⟨z, rfl⟩, ⟨0, rfl⟩⟩
end
end K03

set_option Elab.async false
set_option linter.all false
set_option maxRecDepth 100000
set_option maxHeartbeats 2000000
namespace K03
open PySem PySem.Spec PyProof.Rows L2
/-- all but t stays -/
def But (t : Addr) (H H' : Hp) : Prop := ∀ b o, b ≠ t → H b = some o → H' b = some o
theorem But.refl (t : Addr) (H : Hp) : But t H H := fun _ _ _ h => h
theorem But.upd {t : Addr} {H H1 : Hp} {o : HO} (g : But t H H1) : But t H (upd H1 t o) := fun b u hb q => by rw [upd_ne hb]; exact g b u hb q
theorem But.trans {t : Addr} {H H1 H2 : Hp} (g : But t H H1) (g' : But t H1 H2) : But t H H2 := fun b u hb q => g' b u hb (g b u hb q)
theorem But.of {t : Addr} {H H1 : Hp} (g : Same H H1) : But t H H1 := fun b u _ q => g b u q
theorem TapeAt.put {H : Hp} {t c : Addr} {kvs : List (Key × V)} (T : TapeAt H t kvs c) (x : Str) (z : Int) (hx : x = "at" ∨ x = "left" ∨ x = "seed" ∨ x = "salt") (h0 : x = "at" → 0 ≤ z) : TapeAt (upd H t (.dK (putK kvs (Sum.inr x) (.int z)))) t (putK kvs (Sum.inr x) (.int z)) c := by
  have hct : c ≠ t := by
    obtain ⟨ns, e, _⟩ := T.list
    intro z
    rw [z, T.dict] at e
    cases e
  have hin : (valV kvs (Sum.inr x : Key)).isSome = true := by
    rcases hx with e | e | e | e
    · obtain ⟨z, e1, _⟩ := T.at; rw [e, e1]; rfl
    · obtain ⟨z, e1⟩ := T.left; rw [e, e1]; rfl
    · obtain ⟨z, e1⟩ := T.seed; rw [e, e1]; rfl
    · obtain ⟨z, e1⟩ := T.salt; rw [e, e1]; rfl
  have hl : (putK kvs (Sum.inr x : Key) (.int z)).length = kvs.length := by
    unfold putK
    rw [valV_any, hin, if_pos rfl, List.length_map]
  have oth : ∀ y : Str, ∀ v, valV kvs (Sum.inr y : Key) = some v → y ≠ x → valV (putK kvs (Sum.inr x : Key) (.int z)) (Sum.inr y : Key) = some v := fun y v e hy => by
    rw [valV_put, if_neg (fun q => hy (Sum.inr.inj q))]
    exact e
  have int : ∀ y : Str, (∃ v : Int, valV kvs (Sum.inr y : Key) = some (.int v)) → ∃ v : Int, valV (putK kvs (Sum.inr x : Key) (.int z)) (Sum.inr y : Key) = some (.int v) := fun y ⟨v, e⟩ => by
    by_cases hy : y = x
    · exact ⟨z, by rw [valV_put, if_pos (by rw [hy])]⟩
    · exact ⟨v, oth y _ e hy⟩
  refine ⟨upd_same, by rw [hl]; exact T.len, oth _ _ T.cells ?_, ?_, ?_, int _ T.left, int _ T.seed, int _ T.salt⟩
  · rcases hx with e | e | e | e <;> rw [e] <;> decide
  · obtain ⟨ns, e, hn⟩ := T.list
    exact ⟨ns, by rw [upd_ne hct]; exact e, hn⟩
  · obtain ⟨v, e, hv⟩ := T.at
    by_cases hy : x = "at"
    · exact ⟨z, by rw [valV_put, if_pos (by rw [hy])], h0 hy⟩
    · exact ⟨v, oth _ _ e (fun q => hy q.symm), hv⟩
/-- the same, the list of cells known -/
def TapeC (H : Hp) (t c : Addr) : Prop := ∃ kvs, TapeAt H t kvs c
def spTakeC : Sp := fun vs H Q _ => ∃ (t c : Addr) (m : Int), vs = [.ref t, .int m] ∧ TapeC H t c ∧ 0 < m ∧ m < 1073741824 ∧ ∀ H' z, But t H H' → TapeC H' t c → 0 ≤ z → z < m → Q (.int z) H'
def spTake : Sp := fun vs H Q _ => ∃ (t : Addr) (m : Int), vs = [.ref t, .int m] ∧ TapeOk H t ∧ 0 < m ∧ m < 1073741824 ∧ ∀ H' z, But t H H' → TapeOk H' t → 0 ≤ z → z < m → Q (.int z) H'
theorem fmod_in {x m : Int} (h : 0 < m) : 0 ≤ x.fmod m ∧ x.fmod m < m := by
  rw [Int.fmod_eq_emod_of_nonneg x (Int.le_of_lt h)]
  exact ⟨Int.emod_nonneg _ (by omega), Int.emod_lt_of_pos _ h⟩
theorem mem_len {l : List (Key × V)} (h : l.length ≤ 5) : l.length < sizeLine := Nat.lt_of_le_of_lt (show l.length ≤ 1000 by omega) (by decide)
section
variable {P : Program} {w : World} {K : PySem.W.Frag} {mg : Str → Option Value} {base : Heap}
theorem ok_takeC {f : Addr} {fd : FuncData} {k : Nat} (F : Fun K "_law_take" "_law_take" sTake f fd) (ml : mg "len" = none) (mi : mg "int" = none) : FnOk P w K mg base CX0 (k + 1) f fd ["tape", "many"] spTakeC := by
  refine F.ok scTake (fun vs H Q E h => ?_) (fun cdv A outer s H vs Q E hr h => ?_)
  · obtain ⟨t, c, m, rfl, _⟩ := h
    rfl
  obtain ⟨t, c, m, rfl, hT, hm, hm2, q⟩ := h
  have hu := hu_of hr
  refine ⟨_, C8.pss_cut (ps_if (PW.pt (pw_and (pt_cmpR op_eq (pe_dget hu (pv 0) pe_str (fun _ _ => rfl)) pe_int (nomark _))
        (pw_and1 (pt_cmpR op_lt (pe_dget hu (pv 0) pe_str (fun _ _ => rfl)) (pe_callB call_len_seq (by rfl) ml PySem.boot_len (pa_cons (pe_dget hu (pv 0) pe_str (fun _ _ => rfl)) pa_nil)) (nomark _)))))
      (pss_cons (ps_dput hu (pv 0) pe_str (pe_ix ix_list (pe_dget hu (pv 0) pe_str (fun _ _ => rfl)) (pe_dget hu (pv 0) pe_str (fun _ _ => rfl)) (fun _ _ => rfl)) rfl)
        (pss_one (ps_dput hu (pv 0) pe_str (pe_op op_add (pe_dget hu (pv 0) pe_str (fun _ _ => rfl)) pe_int) rfl))) pss_nil)
    (pss_cons (ps_if (pt_cmpR op_gt (pe_dget hu (pv 0) pe_str (fun _ _ => rfl)) pe_int (nomark _))
      (pss_cons (ps_set (i := 2) scTake.nd rfl (Or.inl rfl) (pe_op op_modN (pe_callTy call_int1 (by rfl) mi (by decide +kernel) (pa_cons (pe_dget hu (pv 0) pe_str (fun _ _ => rfl)) pa_nil)) (pv 1)))
        (pss_cons (ps_dput hu (pv 0) pe_str (pe_op op_fdivN (pe_dget hu (pv 0) pe_str (fun _ _ => rfl)) (pv 1)) rfl)
          (pss_one (ps_ret (pv 2))))) pss_nil)
    (pss_cons (ps_dput hu (pv 0) pe_str (pe_op op_add (pe_dget hu (pv 0) pe_str (fun _ _ => rfl)) pe_int) rfl)
    (pss_cons (ps_set (i := 3) scTake.nd rfl (Or.inl rfl) (pe_op op_modN (pe_callTy call_int1 (by rfl) mi (by decide +kernel) (pa_cons (pe_op op_add (pe_op op_mul (pe_dget hu (pv 0) pe_str (fun _ _ => rfl)) pe_int) (pe_op op_mul (pe_dget hu (pv 0) pe_str (fun _ _ => rfl)) pe_int)) pa_nil)) pe_int))
    (pss_cons (ps_set (i := 3) scTake.nd rfl (Or.inl rfl) (pe_op op_modN (pe_callTy call_int1 (by rfl) mi (by decide +kernel) (pa_cons (pe_op op_add (pe_op op_add (pe_op op_mul (pv 3) (pv 3)) (pe_op op_mul (pe_dget hu (pv 0) pe_str (fun _ _ => rfl)) pe_int)) pe_int) pa_nil)) pe_int))
    (pss_one (ps_ret (pe_op op_modN (pe_callTy call_int1 (by rfl) mi (by decide +kernel) (pa_cons (pv 3) pa_nil)) (pv 1)))))))), ?_⟩
  obtain ⟨kvs, T⟩ := hT
  have get : ∀ {H1 : Hp} {kvs : List (Key × V)} {x : Str} {v : V}, H1 t = some (.dK kvs) → valV kvs (Sum.inr x : Key) = some v → DGet H1 t (.str x) (some v) := fun {H1 kvs x v} e1 e2 => by
    have z := DGet.k (k := Sum.inr x) e1
    rw [e2] at z
    exact z
  refine ⟨fun σ' H' => σ' = L2.start ["tape", "many", "drawn", "mixed"] [.ref t, .int m] ∧ But t H H' ∧ TapeC H' t c, ?_, ?_⟩
  · obtain ⟨zl, el⟩ := T.left
    refine ⟨.ref t, rfl, t, _, rfl, get T.dict el, ?_⟩
    refine ⟨rfl, _, rfl, ?_⟩
    refine ite2 (fun c1 => ?_) (fun c1 => ?_)
    · obtain ⟨za, ea, h0⟩ := T.at
      obtain ⟨ns, en, hn⟩ := T.list
      refine ⟨.ref t, rfl, t, _, rfl, get T.dict ea, .ref t, rfl, t, _, rfl, get T.dict T.cells, c, _, rfl, .inl (SqL.of en), _, _, rfl, rfl, _, rfl, ?_⟩
      refine ite2 (fun c2 => ?_) (fun c2 => ?_)
      · have c2' := of_decide_eq_true c2
        rw [List.length_map] at c2'
        have hz : za.toNat < ns.length := by omega
        have ez : za = ((za.toNat : Nat) : Int) := by omega
        have hat : atI (ns.map V.int) za = some (.int ns[za.toNat]) := at_of ez (by rw [List.getElem?_map, List.getElem?_eq_getElem hz] <;> rfl)
        refine ⟨.ref t, rfl, t, _, rfl, get T.dict T.cells, .ref t, rfl, t, _, rfl, get T.dict ea, c, _, _, _, rfl, rfl, SqL.of en, hat, .ref t, rfl, t, _, rfl, DPut.k (k := Sum.inr "left") T.dict (mem_len T.len), ?_⟩
        have T1 := T.put "left" ns[za.toNat] (.inr (.inl rfl)) (fun z => by cases z)
        obtain ⟨za1, ea1, h01⟩ := T1.at
        refine ⟨.ref t, rfl, t, _, rfl, get T1.dict ea1, _, _, rfl, rfl, .ref t, rfl, t, _, rfl, DPut.k (k := Sum.inr "at") T1.dict (mem_len T1.len), ?_⟩
        have T2 := T1.put "at" (za1 + 1) (.inl rfl) (fun _ => by omega)
        exact ⟨rfl, (But.refl t H).upd.upd, _, T2⟩
      · exact ⟨rfl, But.refl t H, _, T⟩
    · exact ⟨rfl, But.refl t H, _, T⟩
  · rintro σ' H1 ⟨rfl, g1, kvs1, T1⟩
    obtain ⟨zl, el⟩ := T1.left
    refine ⟨.ref t, rfl, t, _, rfl, get T1.dict el, _, _, rfl, rfl, _, rfl, ?_⟩
    refine ite2 (fun d1 => ?_) (fun d1 => ?_)
    · refine ⟨.ref t, rfl, t, _, rfl, get T1.dict el, .inl ⟨_, rfl, .int m, rfl, _, _, rfl, rfl, (by show m ≠ 0; omega), ?_⟩⟩
      refine ⟨.ref t, rfl, t, _, rfl, get T1.dict el, .int m, rfl, _, _, rfl, rfl, ⟨(by show m ≠ 0; omega), (by show m.natAbs < 1073741824; omega)⟩, .ref t, rfl, t, _, rfl, DPut.k (k := Sum.inr "left") T1.dict (mem_len T1.len), ?_⟩
      have T2 := T1.put "left" (zl.fdiv m) (.inr (.inl rfl)) (fun z => by cases z)
      have hb := fmod_in (x := zl) hm
      exact ⟨_, rfl, q _ _ g1.upd ⟨_, T2⟩ hb.1 hb.2⟩
    · obtain ⟨zs, es⟩ := T1.salt
      refine ⟨.ref t, rfl, t, _, rfl, get T1.dict es, _, _, rfl, rfl, .ref t, rfl, t, _, rfl, DPut.k (k := Sum.inr "salt") T1.dict (mem_len T1.len), ?_⟩
      have T2 := T1.put "salt" (zs + 1) (.inr (.inr (.inr rfl))) (fun z => by cases z)
      obtain ⟨ze, ee⟩ := T2.seed
      obtain ⟨zs2, es2⟩ := T2.salt
      refine ⟨.ref t, rfl, t, _, rfl, get T2.dict ee, _, _, rfl, rfl, .inr ⟨by decide, by decide⟩, .ref t, rfl, t, _, rfl, get T2.dict es2, _, _, rfl, rfl, .inr ⟨by decide, by decide⟩, _, _, rfl, rfl, .inl ⟨_, rfl, _, _, rfl, rfl, (by show (2147483647 : Int) ≠ 0; decide), ?_⟩⟩
      have hb := fmod_in (x := ze * 48271 + zs2 * 69621) (m := 2147483647) (by decide)
      refine ⟨_, rfl, _, rfl, _, _, rfl, rfl, .inl ⟨by have := hb.1; show -(2 ^ 64) < _; omega, by have := hb.2; show _ < (2 ^ 64 : Int); omega⟩, .ref t, rfl, t, _, rfl, get T2.dict es2, _, _, rfl, rfl, .inr ⟨by decide, by decide⟩, _, _, rfl, rfl, _, _, rfl, rfl, .inl ⟨_, rfl, _, _, rfl, rfl, (by show (2147483399 : Int) ≠ 0; decide), ?_⟩⟩
      refine ⟨_, rfl, .inl ⟨_, rfl, .int m, rfl, _, _, rfl, rfl, (by show m ≠ 0; omega), ?_⟩⟩
      exact q _ _ g1.upd ⟨_, T2⟩ (fmod_in hm).1 (fmod_in hm).2
theorem ok_take {f : Addr} {fd : FuncData} {k : Nat} (F : Fun K "_law_take" "_law_take" sTake f fd) (ml : mg "len" = none) (mi : mg "int" = none) : FnOk P w K mg base CX0 (k + 1) f fd ["tape", "many"] spTake :=
  (ok_takeC F ml mi).imp fun vs H Q E h => by
    obtain ⟨t, m, rfl, ⟨kvs, c, T⟩, hm, hm2, q⟩ := h
    exact ⟨t, c, m, rfl, ⟨kvs, T⟩, hm, hm2, fun H' z b ⟨kvs', T'⟩ => q H' z b ⟨kvs', c, T'⟩⟩
end
end K03

set_option Elab.async false
set_option linter.all false
set_option maxRecDepth 100000
set_option maxHeartbeats 2000000
namespace K03
open PySem PySem.Spec PyProof.Rows L2
/-! ### isinstance(e, T), T a built-in class -/
def tIsi (K : PySem.W.Frag) (te : TE) (T : String) : TE := fun σ H Q => te σ H fun x H1 => rIsi K [x, .ty T] H1 Q
theorem pe_isi {X : Cx} {e : Expr} {te : TE} {n : Str} {T : String} {p1 p2 p3 : Pos} (he : PE X e te) (mi : X.mg "isinstance" = none) (mT : X.mg n = none) (bT : bootBuiltins n = some (.type T)) (gi : Gl X "isinstance" := by rfl) (gT : Gl X n := by rfl) (hn : n ≠ "__name__" := by decide)
    (hd : (n == ("__debug__" : Str)) = false := by decide) (hs1 : starEach (e :: [.Name n p2]) X.env = (false, eval e X.env) :: starEach [.Name n p2] X.env := by rfl) (hs2 : starEach [.Name n p2] X.env = (false, eval (.Name n p2) X.env) :: starEach [] X.env := by rfl)
    (hpl : (backTo p3 (starEach [.Name n p2] X.env)).any (·.1) = false := by rfl) :
    PE X (.Call (.Name "isinstance" p1) [e, .Name n p2] [] p3) (tIsi X.K te T) :=
  pe_callB (X := X) (p := p1) (pos := p3) call_isi gi mi (by decide +kernel) (pa_cons he (pa_cons (pe_bltn (v := .ty T) (pos := p2) gT mT bT rfl hn hd) pa_nil hs2) hs1) (he := hs1) (hpl := hpl)
theorem isi {K : PySem.W.Frag} {H : Hp} {x : V} {a T : String} {b : Bool} {Q : VK} (h1 : TyX K H x (.type a)) (h2 : kitB a T = some b) (q : Q (.bl b) H) : rIsi K [x, .ty T] H Q :=
  ⟨x, .ty T, .type a, .type T, b, rfl, .ty T, h1, kit_ty h2, q⟩
theorem ifF {c A B : Prop} [Decidable c] (hc : ¬ c) (h : B) : if decide c = true then A else B := by
  rw [decide_eq_false hc]
  exact iteF h
theorem ifT {c A B : Prop} [Decidable c] (hc : c) (h : A) : if decide c = true then A else B := by
  rw [decide_eq_true hc]
  exact iteT h
theorem iteF' {A B : Prop} (h : B) : if false = true then A else B := iteF h
theorem iteT' {A B : Prop} (h : A) : if true = true then A else B := iteT h
theorem iteNT {A B : Prop} (h : B) : if (!true) = true then A else B := iteF h
theorem rix {K : PySem.W.Frag} {H : Hp} {p : Addr} {xs : List V} {i : Int} {v : V} {Q : VK} (h : SqL K H p xs ∨ SqT K H p xs) (e : atI xs i = some v) (q : Q v H) : rIx K (.ref p) (.int i) H Q := by
  rcases h with h | h
  · exact .inl ⟨p, xs, i, v, rfl, rfl, h, e, q⟩
  · exact .inr (.inl ⟨p, xs, i, v, rfl, rfl, h, e, q⟩)
theorem ty_tup {K : PySem.W.Frag} {H : Hp} {a : Addr} {xs : List V} (h : SqT K H a xs) : TyX K H (.ref a) (.type "tuple") := by
  rcases h with (h | ⟨o, h⟩) | ⟨o, _, _, h, c, _⟩
  · exact .base (.tup h)
  · exact .fTuple h
  · exact .kTuple h c
theorem ty_lst {K : PySem.W.Frag} {H : Hp} {a : Addr} {xs : List V} (h : SqL K H a xs) : TyX K H (.ref a) (.type "list") := by
  rcases h with (h | ⟨o, h⟩) | ⟨o, _, _, h, c, _⟩
  · exact .base (.lst h)
  · exact .base (.frz h)
  · exact .kList h c
theorem ty_str {K : PySem.W.Frag} {H : Hp} (x : Str) : TyX K H (.str x) (.type "str") := .base (.str x)
theorem ty_int {K : PySem.W.Frag} {H : Hp} (x : Int) : TyX K H (.int x) (.type "int") := .base (.int x)
/-! ### two values that hold the same -/
inductive Eqd (K : PySem.W.Frag) (H : Hp) : Nat → V → V → Prop where
  | str (n : Nat) (x : Str) : Eqd K H (n + 1) (.str x) (.str x)
  | int (n : Nat) (x : Int) : Eqd K H (n + 1) (.int x) (.int x)
  | bl (n : Nat) (x : Bool) : Eqd K H (n + 1) (.bl x) (.bl x)
  | tup {n : Nat} {a b : Addr} {xs ys : List V} (h1 : SqT K H a xs) (h2 : SqT K H b ys) (hl : xs.length = ys.length) (hz : ys.length ≤ 1000) (h : ∀ (i : Nat) (x y : V), xs[i]? = some x → ys[i]? = some y → Eqd K H n x y) : Eqd K H (n + 1) (.ref a) (.ref b)
  | lst {n : Nat} {a b : Addr} {xs ys : List V} (h1 : SqL K H a xs) (h2 : SqL K H b ys) (hl : xs.length = ys.length) (hz : ys.length ≤ 1000) (h : ∀ (i : Nat) (x y : V), xs[i]? = some x → ys[i]? = some y → Eqd K H n x y) : Eqd K H (n + 1) (.ref a) (.ref b)
theorem ty_bl {K : PySem.W.Frag} {H : Hp} (x : Bool) : TyX K H (.bl x) (.type "bool") := .base (.bl x)
abbrev sLInt : Stmt := top 30
theorem scLInt : FnScope ["actual"] ["actual"] (defScope sLInt) := ⟨rfl, rfl, rfl, by decide +kernel, rfl, by decide +kernel, by decide +kernel⟩
def spLInt : Sp := fun vs H Q _ => ∃ z : Int, vs = [.int z] ∧ Q (.bl true) H
section
variable {P : Program} {w : World} {K : PySem.W.Frag} {mg : Str → Option Value} {base : Heap}
theorem ok_lint {f : Addr} {fd : FuncData} {k : Nat} (F : Fun K "_law_is_integer" "_law_is_integer" sLInt f fd) (mi : mg "isinstance" = none) (mb : mg "bool" = none) (mn : mg "int" = none) : FnOk P w K mg base CX0 (k + 1) f fd ["actual"] spLInt := by
  refine F.ok scLInt (fun vs H Q E h => ?_) (fun cdv A outer s H vs Q E hr h => ?_)
  · obtain ⟨z, rfl, _⟩ := h
    rfl
  obtain ⟨z, rfl, q⟩ := h
  refine ⟨_, pss_one (ps_ret (pe_and (pe_isi (pv 0) mi mn rfl) (pe_one (pe_not (pe_isi (pv 0) mi mb rfl))))), ?_⟩
  refine ⟨_, rfl, isi (ty_int z) (by decide +kernel : kitB "int" "int" = some true) ⟨_, rfl, iteT' ?_⟩⟩
  exact ⟨_, rfl, isi (ty_int z) (by decide +kernel : kitB "int" "bool" = some false) ⟨_, rfl, q⟩⟩
end
abbrev sSameItems : Stmt := top 31
abbrev sSame : Stmt := top 32
theorem scSI : FnScope ["actual", "expected", "k"] ["actual", "expected"] (defScope sSameItems) := ⟨rfl, rfl, rfl, by decide +kernel, rfl, by decide +kernel, by decide +kernel⟩
theorem scSame : FnScope ["actual", "expected", "key"] ["actual", "expected"] (defScope sSame) := ⟨rfl, rfl, rfl, by decide +kernel, rfl, by decide +kernel, by decide +kernel⟩
def spSame (K : PySem.W.Frag) (n : Nat) : Sp := fun vs H Q _ => ∃ x y, vs = [x, y] ∧ Eqd K H n x y ∧ Q (.bl true) H
def spItems (K : PySem.W.Frag) (n : Nat) : Sp := fun vs H Q _ => ∃ (a b : Addr) (xs ys : List V), vs = [.ref a, .ref b] ∧ (SqL K H a xs ∨ SqT K H a xs) ∧ (SqL K H b ys ∨ SqT K H b ys) ∧ xs.length = ys.length ∧ ys.length ≤ 1000 ∧
  (∀ (i : Nat) (x y : V), xs[i]? = some x → ys[i]? = some y → Eqd K H n x y) ∧ Q (.bl true) H
section
variable {P : Program} {w : World} {K : PySem.W.Frag} {mg : Str → Option Value} {base : Heap} {f g : Addr} {fd gd : FuncData}
theorem ok_items {n k : Nat} (F : Fun K "_law_same_items" "_law_same_items" sSameItems f fd) (G : FnOk P w K mg base CX0 k g gd ["actual", "expected"] (spSame K n)) (bG : Binds K gd ["actual", "expected"] []) (kG : PySem.W.keepIn K (.ref g) = true) (mG : mg "_law_same" = some (.ref g)) (ml : mg "len" = none) (mr : mg "range" = none) :
    FnOk P w K mg base CX0 (k + 1) f fd ["actual", "expected"] (spItems K n) := by
  refine F.ok scSI (fun vs H Q E h => ?_) (fun cdv A outer s H vs Q E hr h => ?_)
  · obtain ⟨a, b, xs, ys, rfl, _⟩ := h
    rfl
  obtain ⟨a, b, xs, ys, rfl, hx, hy, hl, hz, hE, q⟩ := h
  refine ⟨_, pss_cons (ps_if (pt_cmpR op_ne (pe_callB call_len_seq (by rfl) ml PySem.boot_len (pa_cons (pv 0) pa_nil)) (pe_callB call_len_seq (by rfl) ml PySem.boot_len (pa_cons (pv 1) pa_nil)) (nomark _)) pss_never pss_nil)
    (pss_cons (ps_for PassesOwn.never rfl (pi_range1 (by rfl) mr (pa_cons (pe_callB call_len_seq (by rfl) ml PySem.boot_len (pa_cons (pv 1) pa_nil)) pa_nil)) (pg_name (i := 2) scSI.nd rfl (Or.inl rfl))
      (pss_one (ps_if (pt_not (pt_val (pe_call G hr (by rfl) mG kG bG .nil pass0 (pa_cons (pe_ix ix_seq (pv 0) (pv 2) (fun _ _ => rfl)) (pa_cons (pe_ix ix_seq (pv 1) (pv 2) (fun _ _ => rfl)) pa_nil))))) pss_never pss_nil)))
    (pss_one (ps_ret pe_bl))), ?_⟩
  refine ⟨.ref a, rfl, a, xs, rfl, hx, .ref b, rfl, b, ys, rfl, hy, rfl, _, rfl, ?_⟩
  rw [hl]
  refine iteNS rfl ?_
  refine ⟨.ref b, rfl, b, ys, rfl, hy, ys.length, rfl, by omega, (by show ((ys.length : Nat) : Int) < 2 ^ 62; omega), ?_⟩
  refine for_range (n := ((ys.length : Nat) : Int).toNat) (fun i σ H1 => ∃ y, σ = [some (.ref a), some (.ref b), y] ∧ H1 = H) ⟨none, rfl, rfl⟩ (fun i σ H1 hi p => ?_) fun σ H1 p => ?_
  · obtain ⟨y, rfl, rfl⟩ := p
    have hi2 : i < ys.length := by omega
    have hi1 : i < xs.length := by omega
    have gx : xs[i]? = some xs[i] := List.getElem?_eq_getElem hi1
    have gy : ys[i]? = some ys[i] := List.getElem?_eq_getElem hi2
    have at1 : atI xs (0 + (i : Int)) = some xs[i] := at_of (by omega) gx
    have at2 : atI ys (0 + (i : Int)) = some ys[i] := at_of (by omega) gy
    refine ⟨.ref a, rfl, .int _, rfl, rix hx at1 ⟨.ref b, rfl, .int _, rfl, rix hy at2 ⟨_, _, rfl, hE i _ _ gx gy, true, rfl, (iteNT ?_ : if (!true) = true then _ else _)⟩⟩⟩
    exact ⟨_, rfl, rfl⟩
  · obtain ⟨y, rfl, rfl⟩ := p
    exact q
theorem ok_same {n k : Nat} (F : Fun K "_law_same" "_law_same" sSame f fd) (G : FnOk P w K mg base CX0 k g gd ["actual", "expected"] (spItems K n)) (bG : Binds K gd ["actual", "expected"] []) (kG : PySem.W.keepIn K (.ref g) = true) (mG : mg "_law_same_items" = some (.ref g)) (mi : mg "isinstance" = none)
    (mb : mg "bool" = none) (mn : mg "int" = none) (ms : mg "str" = none) (mt : mg "tuple" = none) (mll : mg "list" = none)
    {j : Addr} {jd : FuncData} {kj : Nat} (hkj : kj ≤ k) (J : FnOk P w K mg base CX0 kj j jd ["actual"] spLInt) (bJ : Binds K jd ["actual"] []) (kJ : PySem.W.keepIn K (.ref j) = true) (mJ : mg "_law_is_integer" = some (.ref j)) :
    FnOk P w K mg base CX0 (k + 1) f fd ["actual", "expected"] (spSame K (n + 1)) := by
  refine F.ok scSame (fun vs H Q E h => ?_) (fun cdv A outer s H vs Q E hr h => ?_)
  · obtain ⟨x, y, rfl, _⟩ := h
    rfl
  obtain ⟨x, y, rfl, hE, q⟩ := h
  refine ⟨_, pss_cons (ps_if (pt_cmpR op_isN (pv 1) pe_non (nomark _)) pss_never pss_nil)
    (pss_cons (ps_if (pt_val (pe_isi (pv 1) mi mb rfl)) (pss_one (ps_ret (pe_and (pe_isi (pv 0) mi mb rfl) (pe_one (pe_cmpR op_eq (pv 0) (pv 1) (nomark _)))))) pss_nil)
    (pss_cons (ps_if (pt_val (pe_isi (pv 1) mi mn rfl)) (pss_one (ps_ret (pe_and (pe_call J (hr.mono hkj) (by rfl) mJ kJ bJ .nil pass0 (pa_cons (pv 0) pa_nil)) (pe_one (pe_cmpR op_eq (pv 0) (pv 1) (nomark _)))))) pss_nil)
    (pss_cons (ps_if (pt_val (pe_isi (pv 1) mi ms rfl)) (pss_one (ps_ret (pe_and (pe_isi (pv 0) mi ms rfl) (pe_one (pe_cmpR op_eq (pv 0) (pv 1) (nomark _)))))) pss_nil)
    (pss_cons (ps_if (pt_val (pe_isi (pv 1) mi mt rfl)) (pss_one (ps_ret (pe_and (pe_isi (pv 0) mi mt rfl) (pe_one (pe_call G hr (by rfl) mG kG bG .nil pass0 (pa_cons (pv 0) (pa_cons (pv 1) pa_nil))))))) pss_nil)
    (pss_cons (ps_if (pt_val (pe_isi (pv 1) mi mll rfl)) (pss_one (ps_ret (pe_and (pe_isi (pv 0) mi mll rfl) (pe_one (pe_call G hr (by rfl) mG kG bG .nil pass0 (pa_cons (pv 0) (pa_cons (pv 1) pa_nil))))))) pss_nil)
    pss_never))))), ?_⟩
  cases hE with
  | str _ z =>
    refine ⟨_, rfl, rfl, _, rfl, ifF (fun z => by cases z) ?_⟩
    refine ⟨_, rfl, isi (ty_str z) (by decide +kernel : kitB "str" "bool" = some false) ⟨_, rfl, iteF' ?_⟩⟩
    refine ⟨_, rfl, isi (ty_str z) (by decide +kernel : kitB "str" "int" = some false) ⟨_, rfl, iteF' ?_⟩⟩
    refine ⟨_, rfl, isi (ty_str z) (by decide +kernel : kitB "str" "str" = some true) ⟨_, rfl, iteT' ?_⟩⟩
    refine ⟨_, rfl, isi (ty_str z) (by decide +kernel : kitB "str" "str" = some true) ⟨_, rfl, iteT' ?_⟩⟩
    refine ⟨_, rfl, _, rfl, rfl, ?_⟩
    rw [decide_eq_true rfl]
    exact q
  | int _ z =>
    refine ⟨_, rfl, rfl, _, rfl, ifF (fun z => by cases z) ?_⟩
    refine ⟨_, rfl, isi (ty_int z) (by decide +kernel : kitB "int" "bool" = some false) ⟨_, rfl, iteF' ?_⟩⟩
    refine ⟨_, rfl, isi (ty_int z) (by decide +kernel : kitB "int" "int" = some true) ⟨_, rfl, iteT' ?_⟩⟩
    refine ⟨_, rfl, z, rfl, _, rfl, iteT' ⟨_, rfl, _, rfl, rfl, ?_⟩⟩
    rw [decide_eq_true rfl]
    exact q
  | bl _ z =>
    refine ⟨_, rfl, rfl, _, rfl, ifF (fun z => by cases z) ?_⟩
    refine ⟨_, rfl, isi (ty_bl z) (by decide +kernel : kitB "bool" "bool" = some true) ⟨_, rfl, iteT' ?_⟩⟩
    refine ⟨_, rfl, isi (ty_bl z) (by decide +kernel : kitB "bool" "bool" = some true) ⟨_, rfl, iteT' ⟨_, rfl, _, rfl, rfl, ?_⟩⟩⟩
    rw [decide_eq_true rfl]
    exact q
  | tup h1 h2 hl hz h =>
    refine ⟨_, rfl, rfl, _, rfl, ifF (fun z => by cases z) ?_⟩
    refine ⟨_, rfl, isi (ty_tup h2) (by decide +kernel : kitB "tuple" "bool" = some false) ⟨_, rfl, iteF' ?_⟩⟩
    refine ⟨_, rfl, isi (ty_tup h2) (by decide +kernel : kitB "tuple" "int" = some false) ⟨_, rfl, iteF' ?_⟩⟩
    refine ⟨_, rfl, isi (ty_tup h2) (by decide +kernel : kitB "tuple" "str" = some false) ⟨_, rfl, iteF' ?_⟩⟩
    refine ⟨_, rfl, isi (ty_tup h2) (by decide +kernel : kitB "tuple" "tuple" = some true) ⟨_, rfl, iteT' ?_⟩⟩
    refine ⟨_, rfl, isi (ty_tup h1) (by decide +kernel : kitB "tuple" "tuple" = some true) ⟨_, rfl, iteT' ?_⟩⟩
    exact ⟨_, rfl, _, rfl, _, _, _, _, rfl, .inr h1, .inr h2, hl, hz, h, q⟩
  | lst h1 h2 hl hz h =>
    refine ⟨_, rfl, rfl, _, rfl, ifF (fun z => by cases z) ?_⟩
    refine ⟨_, rfl, isi (ty_lst h2) (by decide +kernel : kitB "list" "bool" = some false) ⟨_, rfl, iteF' ?_⟩⟩
    refine ⟨_, rfl, isi (ty_lst h2) (by decide +kernel : kitB "list" "int" = some false) ⟨_, rfl, iteF' ?_⟩⟩
    refine ⟨_, rfl, isi (ty_lst h2) (by decide +kernel : kitB "list" "str" = some false) ⟨_, rfl, iteF' ?_⟩⟩
    refine ⟨_, rfl, isi (ty_lst h2) (by decide +kernel : kitB "list" "tuple" = some false) ⟨_, rfl, iteF' ?_⟩⟩
    refine ⟨_, rfl, isi (ty_lst h2) (by decide +kernel : kitB "list" "list" = some true) ⟨_, rfl, iteT' ?_⟩⟩
    refine ⟨_, rfl, isi (ty_lst h1) (by decide +kernel : kitB "list" "list" = some true) ⟨_, rfl, iteT' ?_⟩⟩
    exact ⟨_, rfl, _, rfl, _, _, _, _, rfl, .inl h1, .inl h2, hl, hz, h, q⟩
theorem no_same : FnOk P w K mg base CX0 0 f fd ["actual", "expected"] (spSame K 0) := by
  have no : ∀ vs H Q E, ¬ spSame K 0 vs H Q E := fun vs H Q E h => by
    obtain ⟨x, y, _, h, _⟩ := h
    cases h
  exact ⟨fun vs H Q E h => absurd h (no vs H Q E), fun A outer s H args us vs Q E _ _ _ _ h => absurd h (no vs H Q E)⟩
/-- the pair, by the number of levels -/
theorem same_all (F : Fun K "_law_same" "_law_same" sSame f fd) (bF : Binds K fd ["actual", "expected"] []) (mF : mg "_law_same" = some (.ref f)) (G : Fun K "_law_same_items" "_law_same_items" sSameItems g gd) (bG : Binds K gd ["actual", "expected"] []) (mG : mg "_law_same_items" = some (.ref g))
    (ml : mg "len" = none) (mr : mg "range" = none) (mi : mg "isinstance" = none) (mb : mg "bool" = none) (mn : mg "int" = none) (ms : mg "str" = none) (mt : mg "tuple" = none) (mll : mg "list" = none)
    {j : Addr} {jd : FuncData} (J : FnOk P w K mg base CX0 1 j jd ["actual"] spLInt) (bJ : Binds K jd ["actual"] []) (kJ : PySem.W.keepIn K (.ref j) = true) (mJ : mg "_law_is_integer" = some (.ref j)) :
    ∀ n : Nat, FnOk P w K mg base CX0 (2 * n) f fd ["actual", "expected"] (spSame K n)
  | 0 => no_same
  | n + 1 => ok_same F (ok_items G (same_all F bF mF G bG mG ml mr mi mb mn ms mt mll J bJ kJ mJ n) bF F.kp mF ml mr) bG G.kp mG mi mb mn ms mt mll (by omega) J bJ kJ mJ
end
end K03

set_option Elab.async false
set_option linter.all false
set_option maxRecDepth 100000
set_option maxHeartbeats 1000000
/-! list(reversed(t)), t a tuple -/
namespace XR
open PySem PySem.Spec PyProof.Rows RT

theorem no_len : typeLookup (.type "reversed") "__len__" = pure none := by rw [typeLookup_type, builtinLookup_eq_fast]; kernel_rfl
theorem has_hint : typeLookup (.type "reversed") "__length_hint__" = pure (some (.builtin "reversed.__length_hint__")) := by rw [typeLookup_type, builtinLookup_eq_fast]; kernel_rfl
theorem slot_hint : Slot "reversed" "__length_hint__" "reversed.__length_hint__" :=
  .of (owner := "reversed") (n := "__length_hint__") has_hint (by decide +kernel) (by decide +kernel) (by decide +kernel)
    (by first | exact .inl (by decide +kernel) | exact .inr (by decide +kernel)) (by rw [isSubtype_type]; kernel_rfl)
theorem entry_hint : entryFor table "reversed.__length_hint__" = some Builtin.«reversed.__length_hint__» := entryFor_of_tree (by kernel_rfl)
theorem args_hint (a : Value) : argsOk "reversed.__length_hint__" ⟨[a], []⟩ := by
  unfold argsOk
  kernel_rfl
theorem type_hint : typeOf (.builtin "reversed.__length_hint__") = pure (.type "method_descriptor") := by kernel_rfl
theorem rtWalks {prog : Program} {w : World} {A : Around} (hh : A.handled = none) (I t : Addr) (hne : t ≠ I) (items : Array Value) (hsz : items.size ≤ sizeLine) :
    Walks prog w A I [I, t] [I] items.size (fun i v => items[items.size - 1 - i]? = some v) (fun i h => i ≤ items.size ∧ IsRt h I t ((items.size : Int) - 1 - (i : Int)) ∧ IsTup h t items) where
  sub := fun b hb => by simp at hb; simp [hb]
  frame := fun _ _ _ x hk => ⟨x.1, x.2.1.at fun o e => hk I (by simp) o e, let ⟨o, ho, r⟩ := x.2.2; ⟨o, hk t (by simp) o ho, r⟩⟩
  item := fun i s Q E hi x hQ => by
    have e : (items.size : Int) - 1 - (i : Int) = ((items.size - 1 - i : Nat) : Int) := by omega
    have hit := x.2.1
    rw [e] at hit
    have hx : items[items.size - 1 - i]? = some (items[items.size - 1 - i]'(by omega)) := Array.getElem?_eq_getElem (by omega)
    refine next_rt_item hit x.2.2 hx hsz fun h' hit' hs' => ?_
    have e2 : ((items.size - 1 - i : Nat) : Int) - 1 = (items.size : Int) - 1 - ((i + 1 : Nat) : Int) := by omega
    rw [e2] at hit'
    obtain ⟨o, ho, r⟩ := x.2.2
    exact hQ _ h' (s.toks + 1) hx ⟨hi, hit', ⟨o, (hs'.2 t hne).trans ho, r⟩⟩ fun b o hb eo => hs'.extBut b o (fun h => hb (by simp [h])) eo
  done := fun s Q E x hQ => by
    have e : (items.size : Int) - 1 - (items.size : Int) = -1 := by omega
    have hit := x.2.1
    rw [e] at hit
    exact next_rt_end hh hit fun h' he' => hQ h' s.toks fun b o hb eo => he' b o (fun h => hb (by simp [h])) eo
  self := fun _ _ _ _ x hQ => iter_rt x.2.1 hQ
section
variable {prog : Program} {w : World} {A : Around} {E : Value → Shared → Prop} {s : Shared}
theorem hint_call {it t : Addr} {items : Array Value} {Q : Value → Shared → Prop} (hit : IsRt s.heap it t ((items.size : Int) - 1)) (ht : IsTup s.heap t items) (hz : items.size ≤ sizeLine)
    (h : ∀ k tk, Q (.int (items.size : Int) k) { s with toks := tk }) : wpAny (model prog w) A (call (.builtin "reversed.__length_hint__") [.ref it]) Q E s := by
  obtain ⟨o, ho, hc, hd⟩ := id hit
  refine wpAny_call_entry slot_hint hit.typeIs entry_hint ?_ (args_hint _)
  unfold Builtin.«reversed.__length_hint__»
  refine wpAny_bind (wpAny_of_eq (a := Value.ref it) (by first | rfl | kernel_rfl) ?_)
  try dsimp only
  refine wpAny_bind (wpAny_field ho hd (x := .ref t) rfl ?_)
  show wpAny _ _ (call (.builtin "len") [.ref t] >>= _) _ _ s
  rw [sizeLine_eq] at hz
  refine wpAny_bind (PyProof.Rows.len_tuple ht (by omega) ?_)
  refine wpAny_bind (wpAny_of_eq (a := some ((items.size : Nat) : Int)) rfl ?_)
  try dsimp only
  refine wpAny_bind (wpAny_field (s := { s with toks := s.toks + 1 + 1 }) ho hd (x := rawInt ((items.size : Int) - 1)) rfl ?_)
  show wpAny _ _ (if ((items.size : Nat) : Int) < (items.size : Int) - 1 + 1 then _ else _) _ _ _
  rw [if_neg (by omega)]
  have e : (items.size : Int) - 1 + 1 = (items.size : Int) := by omega
  rw [e]
  first
    | exact wpAny_bind (wpAny_mkInt (wpAny_pure ⟨_, rfl, h _ _⟩))
    | (unfold retInt; exact wpAny_bind (wpAny_mkInt (wpAny_pure ⟨_, rfl, h _ _⟩)))
theorem extend_rt {R : Result → Shared → Prop} (hh : A.handled = none) {it t : Addr} {items : Array Value} (hit : IsRt s.heap it t ((items.size : Int) - 1)) (ht : IsTup s.heap t items) (hti : t ≠ it) (hz : items.size ≤ sizeLine)
    (S : Addr) (res : Value) (c0 : Nat) (hS : s.heap.get? S = some { cls := .type "list", data := .seq #[] c0 }) (hSi : S ≠ it) (hSt : S ≠ t)
    (hR : ∀ h' tk acc' c', (∀ b o, b ≠ S → b ≠ it → s.heap.get? b = some o → h'.get? b = some o) → h'.get? S = some { cls := .type "list", dict := none, data := .seq acc' c', slots := #[] } →
      ItemsOf (fun i v => items[items.size - 1 - i]? = some v) acc' items.size → R (.ok (.ret res)) { s with heap := h', toks := tk }) :
    wpAny (model prog w) A.in1 (Builtin.List.listExtendWith (.ref S) (.ref it) res)
      (fun fin s' => match fin with | .done f => R (.ok f) s' | .again c' => c'.quiet = true ∧ codeAny (model prog w) A c' R s') (fun e s' => R (.error e) s') s := by
  have hSf : S ∉ [it, t] := by simp only [List.mem_cons, List.not_mem_nil, or_false, not_or]; exact ⟨hSi, hSt⟩
  have hT : s.TypeIs (.ref it) "reversed" := hit.typeIs
  have W := (rtWalks (prog := prog) (w := w) (A := A.in1) hh it t hti items hz).toS
  have e0 : ((items.size : Nat) : Int) - 1 - ((0 : Nat) : Int) = (items.size : Int) - 1 := by omega
  unfold Builtin.List.listExtendWith
  refine wpAny_bind (wpAny_typeOf hT ?_)
  have h1 : Builtin.List.listSameRef (.ref S) (.ref it) = false := by simp [Builtin.List.listSameRef, hSi]
  rw [if_neg (by rw [h1]; decide)]
  refine wpAny_bind (iter_rt hit ?_)
  refine wpAny_bind (wpAny_holding ?_)
  unfold Builtin.List.listLengthHint
  refine wpAny_bind (wpAny_specialOf hT no_len ?_)
  show wpAny _ _ (specialOf (Value.ref it) (Str.ofString "__length_hint__") >>= _) _ _ _
  refine wpAny_bind (wpAny_specialOf hT has_hint ?_)
  generalize hid : ("reversed.__length_hint__" : String) = id0
  wp_delta
  rw [show splitId id0 = some ("reversed", "__length_hint__") from by subst hid; decide +kernel]
  subst hid
  refine wpAny_bind (wpAny_isInstance (b := true) hT F.sub_reversed_self ?_)
  show wpAny _ _ (rule "list.length-hint.hint" >>= _) _ _ _
  refine wpAny_bind (wpAny_rule ?_)
  have hbind : bindSpecial (.builtin "reversed.__length_hint__") (.ref it) = pure (.builtin "reversed.__length_hint__", [.ref it]) := by
    unfold bindSpecial
    rw [type_hint]
    rfl
  refine wpAny_bind (wpAny_of_eq hbind ?_)
  refine wpAny_bind (wpAny_attempt (hint_call hit ht hz fun k tk => ?_))
  show wpAny _ _ (asInt? (Value.int ((items.size : Nat) : Int) k) >>= _) _ _ _
  have ha : asInt? (Value.int ((items.size : Nat) : Int) k) = pure (some ((items.size : Nat) : Int)) := rfl
  rw [ha, pure_bind]
  rw [sizeLine_eq] at hz
  have f1 : Builtin.List.listFitsIndex ((items.size : Nat) : Int) = true := by
    unfold Builtin.List.listFitsIndex
    simp only [Bool.and_eq_true, decide_eq_true_eq]
    omega
  have f2 : Builtin.List.listTooLong (((items.size : Nat) : Int)).toNat = false := by
    unfold Builtin.List.listTooLong
    rw [sizeLine_eq]
    simp only [decide_eq_false_iff_not]
    omega
  dsimp only
  rw [if_neg (show ¬ (!Builtin.List.listFitsIndex ((items.size : Nat) : Int)) = true by rw [f1]; decide), if_neg (show ¬ ((items.size : Nat) : Int) < 0 by omega), if_neg (show ¬ Builtin.List.listTooLong (((items.size : Nat) : Int)).toNat = true by rw [f2]; decide)]
  refine wpAny_pure ?_
  have fin : ∀ (h2 : Heap), h2.get? S = some { cls := .type "list", dict := none, data := .seq #[] c0, slots := #[] } ∨ (∃ c1, h2.get? S = some { cls := .type "list", dict := none, data := .seq #[] c1, slots := #[] }) →
      (∀ b o, b ≠ S → s.heap.get? b = some o → h2.get? b = some o) →
      (fun fin s' => match fin with | .done f => R (.ok f) s' | .again c' => c'.quiet = true ∧ codeAny (model prog w) A c' R s') (PySem.Fin.again (.builtin "list.extend.loop" ⟨[.ref S, .ref it, res], []⟩)) { s with heap := h2, toks := tk } := by
    intro h2 hS2 k2
    obtain ⟨c1, hS2⟩ : ∃ c1, h2.get? S = some { cls := .type "list", dict := none, data := .seq #[] c1, slots := #[] } := by
      rcases hS2 with z | z
      · exact ⟨_, z⟩
      · exact z
    obtain ⟨ot, hot, rt⟩ := ht
    refine ⟨plainId_quiet F.plain_extend_loop _, codeAny_extend_loopS W (by rw [sizeLine_eq]; omega) S hSf res items.size 0 { s with heap := h2, toks := tk } #[] c1 rfl (Nat.zero_le _)
      ⟨Nat.zero_le _, by rw [e0]; exact hit.at fun o e => k2 it o (Ne.symm hSi) e, ⟨ot, k2 t ot (Ne.symm hSt) hot, rt⟩⟩ hS2 (ItemsOf.nil _) fun s' acc' c' hm hS' hacc => ?_⟩
    rw [Moved.eq_with hm]
    refine hR s'.heap s'.toks acc' c' (fun b o hb hb2 e => hm.heap b o (fun hmem => ?_) (k2 b o hb e)) hS' hacc
    rcases List.mem_cons.mp hmem with e' | hmem
    · exact hb e'
    · exact hb2 (List.mem_singleton.mp hmem)
  split
  · refine wpAny_bind (wpAny_rule ?_)
    refine wpAny_bind ?_
    show wpAny _ A.in1 (updateSeq S (·.push .none) >>= fun _ => updateSeq S (·.pop)) _ _ _
    refine wpAny_bind (wpAny_updateSeq (s := { s with toks := tk }) hS rfl ?_ (Nat.zero_le _) (by rw [sizeLine_eq]; show 1 ≤ _; decide))
    have hS3 := Heap.get?_update_self (Obj.mapSeq (·.push Value.none)) hS rfl
    refine wpAny_updateSeq (s := { s with heap := s.heap.update S (Obj.mapSeq (·.push Value.none)), toks := tk }) hS3 rfl ?_ (by rw [sizeLine_eq]; show 1 ≤ _; decide) (Nat.zero_le _)
    have hS4 := Heap.get?_update_self (Obj.mapSeq (·.pop)) hS3 rfl
    refine wpAny_pure (fin _ (.inr ⟨_, hS4⟩) fun b o hb e => ?_)
    exact (Heap.get?_update_other _ _ (Ne.symm hb)).trans ((Heap.get?_update_other _ _ (Ne.symm hb)).trans e)
  · exact wpAny_pure (fin s.heap (.inl hS) fun b o _ e => e)
theorem call_list_rt {Q : Value → Shared → Prop} (hh : A.handled = none) {it t : Addr} {items : Array Value} (hit : IsRt s.heap it t ((items.size : Int) - 1)) (ht : IsTup s.heap t items) (hti : t ≠ it) (hz : items.size ≤ sizeLine)
    (hQ : ∀ h' tk acc' c', (∀ b o, b ≠ it → s.heap.get? b = some o → h'.get? b = some o) →
      h'.get? s.heap.objs.size = some { cls := .type "list", dict := none, data := .seq acc' c', slots := #[] } → ItemsOf (fun i v => items[items.size - 1 - i]? = some v) acc' items.size → Q (.ref s.heap.objs.size) { s with heap := h', toks := tk }) :
    wpAny (model prog w) A (call (.type "list") [.ref it]) Q E s := by
  refine callType_codes (Q₁ := fun obj s1 => obj = .ref s.heap.objs.size ∧ s1 = { s with heap := s.heap.push { cls := .type "list", data := .seq #[] } }) F.called_list (F.typeCall_list_1 _) F.entry_list_init
    (code_list_new _ ⟨rfl, rfl⟩) fun obj s1 h1 => ?_
  obtain ⟨rfl, rfl⟩ := h1
  have hS : (s.heap.push { cls := .type "list", data := .seq #[] }).get? s.heap.objs.size = some { cls := .type "list", data := .seq #[] } := Heap.get?_push_size _ rfl
  have hS2 := Heap.get?_update_self (Obj.mapSeq (fun _ => (#[] : Array Value))) hS rfl
  have oth : ∀ b o, b ≠ s.heap.objs.size → (s.heap.push { cls := .type "list", data := .seq #[] }).get? b = some o → ((s.heap.push { cls := .type "list", data := .seq #[] }).update s.heap.objs.size (Obj.mapSeq (fun _ => (#[] : Array Value)))).get? b = some o :=
    fun b o hb e => (Heap.get?_update_other _ _ (Ne.symm hb)).trans e
  have old : ∀ b o, s.heap.get? b = some o → ((s.heap.push { cls := .type "list", data := .seq #[] }).update s.heap.objs.size (Obj.mapSeq (fun _ => (#[] : Array Value)))).get? b = some o :=
    fun b o e => oth b o (Nat.ne_of_lt (Heap.lt_size e)) (Heap.get?_push_of_some _ e)
  refine ⟨⟨_, hS, rfl⟩, F.args_list_init_2 _ _, ?_⟩
  show wpAny _ _ (do let old ← Builtin.List.listItems (.ref s.heap.objs.size); Builtin.List.listUpdate (.ref s.heap.objs.size) (fun _ => #[]); letGo old.toList.reverse; Builtin.List.listExtendWith (.ref s.heap.objs.size) (.ref it) .none) _ _ _
  refine wpAny_bind ?_
  unfold Builtin.List.listItems
  refine wpAny_bind (wpAny_seqItems hS rfl (wpAny_pure ?_))
  show wpAny _ _ (updateSeq s.heap.objs.size (fun _ => #[]) >>= fun _ => letGo (#[] : Array Value).toList.reverse >>= fun _ => Builtin.List.listExtendWith (.ref s.heap.objs.size) (.ref it) .none) _ _ _
  refine wpAny_bind (wpAny_updateSeq hS rfl ?_)
  refine wpAny_bind (wpAny_letGo ?_)
  obtain ⟨oi, hoi, ri⟩ := hit
  obtain ⟨ot, hot, rt⟩ := ht
  refine extend_rt (A := A.in1) hh ⟨oi, old _ _ hoi, ri⟩ ⟨ot, old _ _ hot, rt⟩ hti hz s.heap.objs.size .none _ hS2 (Nat.ne_of_gt (Heap.lt_size hoi)) (Nat.ne_of_gt (Heap.lt_size hot)) fun h' tk acc' c' hk hS' hacc => ?_
  exact ⟨rfl, hQ h' tk acc' c' (fun b o hb e => hk b o (Nat.ne_of_lt (Heap.lt_size e)) hb (old b o e)) hS' hacc⟩
end
end XR
namespace L2
open PySem PySem.Spec PyProof.Rows RT XR
/-- list(reversed(x)), x a tuple: a new list -/
def tListRev (K : PySem.W.Frag) (te : TE) : TE := fun σ H Q => te σ H fun v H1 => ∃ (a : Addr) (xs : List V), v = .ref a ∧ SqT K H1 a xs ∧ ∀ q, H1 q = none → Q (.ref q) (upd H1 q (.lst xs.reverse))
section
variable {X : Cx}
theorem pe_listRev {e : Expr} {te : TE} {p p2 pos pos2 : Pos} (hc : X.calm = true) (hg : Gl X "list") (hm : X.mg "list" = none) (hg2 : Gl X "reversed") (hm2 : X.mg "reversed" = none) (he : PE X e te)
    (hs : starEach [e] X.env = (false, eval e X.env) :: starEach [] X.env := by rfl)
    (hs2 : starEach [.Call (.Name "reversed" p2) [e] [] pos2] X.env = (false, eval (.Call (.Name "reversed" p2) [e] [] pos2) X.env) :: starEach [] X.env := by rfl) :
    PE X (.Call (.Name "list" p) [.Call (.Name "reversed" p2) [e] [] pos2] [] pos) (tListRev X.K te) := by
  refine ⟨fun pins s σ H Q I h => ?_⟩
  refine Call_ (ld_blt I hg hm boot_list (PyProof.Rows.callWith_type1 (args_cons (Call_ (ld_blt I hg2 hm2 PyProof.Rows.boot_reversed (PyProof.Rows.callWith_type1 (args_cons (thn (he.run pins s σ H _ I h) fun u s1 ⟨v, H1, I1, r1, q1⟩ => args_nil ?_) hs) hs rfl))) hs2) hs2 rfl))
  obtain ⟨a, xs, ev, hq, q⟩ := q1
  subst ev
  obtain rfl : u = Value.ref a := r1
  obtain ⟨its, rv, p', hz⟩ := I1.tuple hq
  have hl := rv.length
  have hn := line63
  have hsz : its.toArray.size ≤ sizeLine := by rw [List.size_toArray, ← rv.length]; exact hz
  refine call_reversed_tup p' (fun A E Q k => PyProof.Rows.len_tuple p' (by simp only [List.size_toArray] <;> omega) k) (args_nil ?_)
  have k0 : ∀ b o, s1.heap.get? b = some o → (s1.heap.push (rtObj a ((its.toArray.size : Int) - 1))).get? b = some o := fun b o e => Heap.get?_push_of_some _ e
  have I2 : Inv X pins σ H1 { s1 with heap := s1.heap.push (rtObj a ((its.toArray.size : Int) - 1)), toks := s1.toks + 1 + 1 } := I1.kept (t' := s1.toks + 1 + 1) k0
  have fp := I1.fpOk (H' := H1) (b := s1.heap.objs.size) (Nat.le_refl _) (I1.hok.fresh (Nat.le_refl _))
  have hlt : a < s1.heap.objs.size := by
    obtain ⟨o, ho, _⟩ := p'
    exact Heap.lt_size ho
  have p2' : IsTup (s1.heap.push (rtObj a ((its.toArray.size : Int) - 1))) a its.toArray := by
    obtain ⟨o, ho, r⟩ := p'
    exact ⟨o, Heap.get?_push_of_some _ ho, r⟩
  refine call_list_rt (s := { s1 with heap := s1.heap.push (rtObj a ((its.toArray.size : Int) - 1)), toks := s1.toks + 1 + 1 }) (I1.ok.hd hc) ⟨_, Heap.get?_push_size _ rfl, rfl, rfl⟩ p2' (Nat.ne_of_lt hlt) hsz fun h' tk acc c' hk hS' hi => ?_
  have r' := RT.vals_rev rv hi
  refine ⟨.ref _, upd H1 _ (.lst xs.reverse), I2.turnedNew (t' := tk) (ch := [s1.heap.objs.size]) (fun b o hb e => hk b o (fun z => hb (List.mem_singleton.mpr z)) e) (fun b hb => by rw [List.mem_singleton.mp hb]; exact fp) (Nat.le_refl _)
    (show ObjOk X.prog X.w _ _ _ (.lst xs.reverse) from ⟨by rw [List.length_reverse]; exact hz, acc.toList, c', r', by rw [Array.toArray_toList]; exact hS'⟩), rfl, q _ (I2.hok.fresh (Nat.le_refl _))⟩
end
end L2

set_option Elab.async false
set_option linter.all false
set_option maxRecDepth 100000
set_option maxHeartbeats 2000000
namespace K03
open PySem PySem.Spec PyProof.Rows L2

theorem gn {i : Nat} {v : V} {σ : L2.St} {H : Hp} {Q : L2.St → Hp → Prop} (h : Q (σ.set i (some v)) H) : gName i v σ H Q := h

theorem nxs {A rt bk ct} {σ : L2.St} {H : Hp} (h : A σ H) : ({ nx := A, rt := rt, bk := bk, ct := ct } : Ends).nx σ H := h

theorem small' {n : Nat} (h : n < 1000) : n < sizeLine := Nat.lt_of_lt_of_le h (small (by decide))

theorem cut1 (xs : List V) : cutV xs (some 1) none = xs.drop 1 := by
  unfold cutV
  rw [show HT.sIx xs.length 0 (some 1) = min 1 xs.length from HT.sIx_nat xs.length 0 1, HT.sIx_none]
  cases xs with
  | nil => rfl
  | cons x r =>
    rw [show min 1 (x :: r).length = 1 by
      rw [List.length_cons]
      omega]
    show (List.take ((x :: r).length - 1) r) = r
    rw [List.length_cons, Nat.add_sub_cancel]
    exact List.take_length

/-- t[1:], t a tuple -/
theorem tail_sl {K : PySem.W.Frag} {H : Hp} {c : Addr} {xs : List V} {σ : L2.St} {Q : VK} (h : H c = some (.tup xs)) (q : ∀ p H', Same H H' → H' p = some (.tup (xs.drop 1)) → Q (.ref p) H') : tNoPart σ H fun u H3 => rSlA K (.ref c) (some 1) u H3 Q := by
  refine ⟨c, xs, rfl, SqT.of h, fun z => ?_, fun _ p hp => ?_⟩
  · refine q c H (Same.refl H) ?_
    have e : xs = [] := by
      have := z.1
      rw [show HT.sIx xs.length 0 (some 1) = min 1 xs.length from HT.sIx_nat xs.length 0 1] at this
      cases xs with
      | nil => rfl
      | cons x r => simp at this
    rw [e] at h ⊢
    exact h
  · refine q p _ (same_new hp) ?_
    rw [upd_same, cut1]

theorem while_n {c : TT} {tb u : TS} {D : Ends} {σ : L2.St} {H : Hp} (Pv : Nat → L2.St → Hp → Prop) (m0 : Nat) (h0 : Pv m0 σ H)
    (hs : ∀ m σ H, Pv m σ H → c σ H fun b H1 => if b = true then ∃ N : L2.St → Hp → Prop, (∀ σ' H', N σ' H' → ∃ m', m' < m ∧ Pv m' σ' H') ∧ tb { nx := N, ct := N, bk := u D, rt := D.rt } σ H1 else u D σ H1) : tSeq (tWhile c tb) u D σ H := ⟨Pv, ⟨m0, h0⟩, hs⟩

/-! ### addresses one by one -/
def Al {α : Type} (R : Addr → α → Prop) : List Addr → List α → Prop
  | [], [] => True
  | a :: as, s :: ss => R a s ∧ Al R as ss
  | _, _ => False
theorem Al.mono {α : Type} {R R' : Addr → α → Prop} (g : ∀ a x, R a x → R' a x) : ∀ {as : List Addr} {ss : List α}, Al R as ss → Al R' as ss
  | [], [], _ => True.intro
  | _ :: _, _ :: _, ⟨h, t⟩ => ⟨g _ _ h, Al.mono g t⟩
theorem Al.append {α : Type} {R : Addr → α → Prop} : ∀ {as bs : List Addr} {ss ts : List α}, Al R as ss → Al R bs ts → Al R (as ++ bs) (ss ++ ts)
  | [], _, [], _, _, h => h
  | _ :: _, _, _ :: _, _, ⟨h, t⟩, q => ⟨h, t.append q⟩
theorem Al.len {α : Type} {R : Addr → α → Prop} : ∀ {as : List Addr} {ss : List α}, Al R as ss → as.length = ss.length
  | [], [], _ => rfl
  | _ :: _, _ :: _, ⟨_, t⟩ => congrArg (· + 1) t.len
theorem Al.snoc {α : Type} {R : Addr → α → Prop} {a : Addr} {s : α} {as : List Addr} {ss : List α} (t : Al R as ss) (h : R a s) : Al R (as ++ [a]) (ss ++ [s]) := t.append ⟨h, True.intro⟩
theorem Al.revs {α : Type} {R : Addr → α → Prop} {cs : List Addr} {a : Addr} {ss : List α} (h : Al R (cs ++ [a]).reverse ss) : ∃ s r, ss = s :: r ∧ R a s ∧ Al R cs.reverse r := by
  rw [List.reverse_append] at h
  cases ss with
  | nil => exact h.elim
  | cons s r => exact ⟨s, r, rfl, h.1, h.2⟩

/-- the truth of a name -/
def tTru (K : PySem.W.Frag) (i : Nat) : TT := fun σ H Q => tVar i σ H fun x H' => ∃ k, TruV K x H' k ∧ Q k H'

/-- tuples stay -/
def KeepT (H H' : Hp) : Prop := ∀ b xs, H b = some (.tup xs) → H' b = some (.tup xs)
theorem KeepT.refl (H : Hp) : KeepT H H := fun _ _ h => h
theorem KeepT.trans {H H1 H2 : Hp} (a : KeepT H H1) (b : KeepT H1 H2) : KeepT H H2 := fun c xs h => b c xs (a c xs h)
theorem KeepT.of {H H' : Hp} (g : Same H H') : KeepT H H' := fun b xs h => g b _ h
theorem KeepT.put {H : Hp} {a : Addr} {xs : List V} (e : H a = some (.lst xs)) (ys : List V) : KeepT H (upd H a (.lst ys)) := fun b zs h => by
  rw [upd_ne (fun z => by rw [z, e] at h; cases h)]
  exact h

theorem Al.reverse {α : Type} {R : Addr → α → Prop} : ∀ {as : List Addr} {ss : List α}, Al R as ss → Al R as.reverse ss.reverse
  | [], [], _ => True.intro
  | a :: as, s :: ss, ⟨h, t⟩ => by
    rw [List.reverse_cons, List.reverse_cons]
    exact t.reverse.snoc h

theorem drop_at {α : Type} {L : List α} {n : Nat} {x : α} (h : L[n]? = some x) : L.drop n = x :: L.drop (n + 1) := by
  obtain ⟨hn, e⟩ := List.getElem?_eq_some_iff.mp h
  rw [List.drop_eq_getElem_cons hn, e]

theorem But.same0 {D : Addr} {H H1 H2 : Hp} (hD : H D = none) (g : Same H H1) (b : But D H1 H2) : Same H H2 := fun c o e => b c o (ne_of_none e hD) (g c o e)

/-- what the top has written of an error's class -/
structure ExcT (K : PySem.W.Frag) (mg : Str → Option Value) (nm : Str) (C : Addr) : Prop where
  x : PySem.W.excIn K C [.type "ValueError", .type "Exception", .type "BaseException", .type "object"] "ValueError.__new__" = true
  g : mg nm = some (.ref C)
  k : PySem.W.keepIn K (.ref C) = true
  b : PySem.W.subIn K (.ref C) (.type "BaseException") = some true
  t : PySem.W.typeIn K (.ref C) = some (.type "type")
  e : PySem.W.exmOne K (.ref C) (.ref C) = some true

theorem iteNF {A B : Prop} (h : A) : if (!false) = true then A else B := iteT h

theorem TapeOk.same {H H' : Hp} {t : Addr} (g : Same H H') (h : TapeOk H t) : TapeOk H' t := by
  obtain ⟨kvs, c, T⟩ := h
  obtain ⟨ns, e, hn⟩ := T.list
  exact ⟨kvs, c, g _ _ T.dict, T.len, T.cells, ⟨ns, g _ _ e, hn⟩, T.at, T.left, T.seed, T.salt⟩

theorem TapeOk.ne {H : Hp} {t a : Addr} {xs : List V} (h : TapeOk H t) (e : H a = some (.tup xs)) : a ≠ t := by
  obtain ⟨kvs, c, T⟩ := h
  intro z
  rw [z, T.dict] at e
  cases e

theorem TapeOk.keepT {H H' : Hp} {t : Addr} (T : TapeOk H t) (g : But t H H') : KeepT H H' := fun b xs e => g b _ (T.ne e) e

theorem v3 {a b : V} {x y : Int} (h : x = y) : [a, b, V.int x] ++ [] = [a, b, V.int y] := by rw [h]; rfl

/-- t[:k], not the whole -/
theorem pre_sl {K : PySem.W.Frag} {H : Hp} {c : Addr} {xs : List V} {k : Nat} {Q : VK} (h : H c = some (.tup xs)) (hk : k < xs.length) (q : ∀ p H', Same H H' → H' p = some (.tup (xs.take k)) → Q (.ref p) H') : rSlA K (.ref c) none (some (k : Int)) H Q := by
  have e1 : HT.sIx xs.length xs.length (some (k : Int)) = k := by rw [HT.sIx_nat]; omega
  refine ⟨c, xs, rfl, SqT.of h, fun z => ?_, fun _ p hp => ?_⟩
  · have := z.2
    omega
  · refine q p _ (same_new hp) ?_
    rw [upd_same]
    unfold cutV
    rw [e1, HT.sIx_none, List.drop_zero, Nat.sub_zero]

/-- t[k:], not the whole -/
theorem post_sl {K : PySem.W.Frag} {H : Hp} {c : Addr} {xs : List V} {k : Nat} {σ : L2.St} {Q : VK} (h : H c = some (.tup xs)) (h0 : 0 < k) (hx : 0 < xs.length) (q : ∀ p H', Same H H' → H' p = some (.tup (xs.drop k)) → Q (.ref p) H') : tNoPart σ H fun u H3 => rSlA K (.ref c) (some (k : Int)) u H3 Q := by
  have e1 : HT.sIx xs.length 0 (some (k : Int)) = min k xs.length := HT.sIx_nat _ _ _
  refine ⟨c, xs, rfl, SqT.of h, fun z => ?_, fun _ p hp => ?_⟩
  · have := z.1
    omega
  · refine q p _ (same_new hp) ?_
    rw [upd_same]
    unfold cutV
    rw [e1, HT.sIx_none]
    have : (xs.drop (min k xs.length)).take (xs.length - min k xs.length) = xs.drop k := by
      rw [List.take_of_length_le (by rw [List.length_drop]; exact Nat.le_refl _)]
      by_cases hk : k ≤ xs.length
      · rw [Nat.min_eq_left hk]
      · rw [Nat.min_eq_right (by omega), List.drop_length, List.drop_eq_nil_of_le (by omega)]
    rw [this]

/-- x + y of two tuples -/
theorem cat_tup {K : PySem.W.Frag} {H : Hp} {a b : Addr} {xs ys : List V} {Q : VK} (e1 : H a = some (.tup xs)) (e2 : H b = some (.tup ys)) (hz : xs.length + ys.length ≤ 1000) (q : ∀ p H', Same H H' → H' p = some (.tup (xs ++ ys)) → Q (.ref p) H') : rCatA K (.ref a) (.ref b) H Q := by
  refine ⟨a, b, _, _, rfl, rfl, SqT.of e1, SqT.of e2, small hz, fun h => ?_, fun _ h => ?_, fun _ _ p hp => ?_⟩
  · refine q b H (Same.refl H) ?_
    rw [h, List.nil_append]
    exact e2
  · refine q a H (Same.refl H) ?_
    rw [h, List.append_nil]
    exact e1
  · refine q p _ (same_new hp) ?_
    rw [upd_same]

def tIsE (K : PySem.W.Frag) (a : Addr) (cls : Value) (d : Option Addr) (S : Addr) (i : Nat) : TE := fun σ H Q => ∃ D, cls = .ref D ∧ d = none ∧ ExcC K D ∧ tVar i σ H fun x H1 => rIsE K D a [x, .ref S] H1 Q

section
variable {P : Program} {w : World} {K : PySem.W.Frag} {mg : Str → Option Value} {base : Heap}
theorem fn_or {CX : CXT} {f : Addr} {fd : FuncData} {k : Nat} {ps : List Str} {s1 s2 : Sp} (h1 : FnOk P w K mg base CX k f fd ps s1) (h2 : FnOk P w K mg base CX k f fd ps s2) : FnOk P w K mg base CX k f fd ps (fun vs H Q E => s1 vs H Q E ∨ s2 vs H Q E) :=
  ⟨fun vs H Q E h => h.elim (h1.len vs H Q E) (h2.len vs H Q E), fun A outer s H args us vs Q E hr e b v h => h.elim (h1.run A outer s H args us vs Q E hr e b v) (h2.run A outer s H args us vs Q E hr e b v)⟩
end

theorem Al.get {α : Type} {R : Addr → α → Prop} : ∀ {as : List Addr} {ss : List α} {i : Nat} {a : Addr}, Al R as ss → as[i]? = some a → ∃ s, ss[i]? = some s ∧ R a s
  | [], [], i, a, _, e => by simp at e
  | b :: as, s :: ss, 0, a, ⟨h, _⟩, e => by
    simp at e
    exact ⟨s, rfl, e ▸ h⟩
  | b :: as, s :: ss, i + 1, a, ⟨_, t⟩, e => t.get (i := i) (by simpa using e)

theorem fn_quiet {P : Program} {w : World} {K : PySem.W.Frag} {mg : Str → Option Value} {base : Heap} {f : Addr} {fd : FuncData} {k : Nat} {ps : List Str} {sp : Sp} (h : FnOk P w K mg base (L2.CX P w) k f fd ps sp) : FnOk P w K mg base CX0 k f fd ps (fun vs H Q _ => sp vs H Q E0) :=
  ⟨fun vs H Q _ q => h.len vs H Q E0 q, fun A outer s H args us vs Q E hr e b v q => codeAny_mono (h.run A outer s H args us vs Q E0 hr e b v q) fun r s' z => by
    match r, z with
    | .ok (.ret u), z => exact z
    | .error e, z =>
      obtain ⟨_, _, _, _, _, _, _, _, _, _, _, _, z⟩ := z
      exact z.elim⟩

theorem room65 {k : Nat} {A : Around} (r : Room k A) : A.units + 65 < cLine := by have := r.un; omega

end K03

set_option Elab.async false
set_option linter.all false
set_option maxRecDepth 100000
/-! set(t) of a tuple of texts, and sorted of such a set -/
namespace XS
open PySem PySem.Spec PyProof.Rows L2

def txtOf (e : Int × Value) : Str := match e.2 with | .str k _ => k | _ => Str.empty
def TxtE (w : World) (e : Int × Value) : Prop := ∃ k tk, e.2 = Value.str k tk ∧ e.1 = hashStr w k
structure SetX (w : World) (h : Heap) (a : Addr) (L : List Str) : Prop where
  ex : ∃ o es ep t, h.get? a = some o ∧ o.ExactSet ∧ o.data = .set es ep t ∧ (∀ e ∈ es.toList, TxtE w e) ∧ (es.toList.map txtOf).Perm L ∧ es.size < scanBound ∧ t.fits es.size = true ∧ Ris t.place.toList ∧
    (w.params.followText "set-order" = true ∨ t.led = true)
  nd : L.Nodup
section
variable {P : Program} {w : World} {h h' : Heap} {a : Addr} {L : List Str}
theorem SetX.at' (R : SetX w h a L) (k : ∀ o, h.get? a = some o → h'.get? a = some o) : SetX w h' a L := by
  obtain ⟨⟨o, es, ep, t, ho, r⟩, nd⟩ := R
  exact ⟨⟨o, es, ep, t, k o ho, r⟩, nd⟩
theorem txt_elems {l : List (Int × Value)} (g : ∀ e ∈ l, TxtE w e) : ElemsOf (PySem.strKind P w) l := fun e he => by
  obtain ⟨k, tk, e1, e2⟩ := g e he
  exact ⟨⟨k, by rw [e1]; exact strKind_is P w k tk, e2⟩, by rw [e1] <;> rfl⟩
theorem txt_is {e : Int × Value} (g : TxtE w e) (k : Str) : (PySem.strKind P w).is k e.2 = true ↔ txtOf e = k := by
  obtain ⟨k0, tk, e1, _⟩ := g
  have his : (PySem.strKind P w).is k0 e.2 = true := by rw [e1]; exact strKind_is P w k0 tk
  have ht : txtOf e = k0 := by unfold txtOf; rw [e1]
  rw [KeyKind.is_eq_decide his k, decide_eq_true_eq, ht]
  exact ⟨fun z => z.symm, fun z => z.symm⟩
end
section
variable {P : Program} {w : World} {A : Around} {E : Value → Shared → Prop} {s : Shared} {a : Addr} {L : List Str}
theorem addX_tail {g : Bool → Sem Unit} (hg : ∀ (b : Bool) (s1 : Shared) (Q' : Unit → Shared → Prop), Q' () s1 → wpAny (model P w) A (g b) Q' E s1)
    {o : Obj} {es : Array (Int × Value)} {ep : Nat} {t : SetTable} (ho : s.heap.get? a = some o) (hex : o.ExactSet) (hd : o.data = .set es ep t)
    {es1 : Array (Int × Value)} {t2 : SetTable} {L1 : List Str} (g1 : ∀ e ∈ es1.toList, TxtE w e) (p1 : (es1.toList.map txtOf).Perm L1) (n1 : L1.Nodup)
    (hb1 : es1.size < scanBound) (hf2 : t2.fits es1.size = true) (hr : Ris t2.place.toList) (hl : w.params.followText "set-order" = true ∨ t2.led = true) {dum : Bool} {R : Option Bool → Shared → Prop}
    (hR : ∀ h', Heap.SameBut a s.heap h' → SetX w h' a L1 → R (some true) { s with heap := h' }) :
    wpAny (model P w) A (do
        storeSet a es1 t2
        if (!dum && t2.tooFull) = true then do
            g (relayAll t2 es1 (SetTable.grown es1.size)).2.2
            storeSet a (relayAll t2 es1 (SetTable.grown es1.size)).1 (relayAll t2 es1 (SetTable.grown es1.size)).2.1
            pure (some true)
          else pure (some true)) R E s := by
  refine wpAny_bind (wpAny_storeSet_of ho hd ?_ (fits_of_scanBound hb1))
  have ho1 := store_at (es' := es1) (t' := t2) ho hd
  have sb1 := Heap.SameBut.update s.heap a (Obj.putSet es1 t2)
  split
  · have q1 := relayAll_perm t2 es1 (SetTable.grown es1.size)
    have q2 := relayAll_fits t2 es1 (SetTable.grown es1.size)
    have q3 := relayAll_ris t2 es1 (SetTable.grown es1.size)
    have q4 := relayAll_led t2 es1 (SetTable.grown es1.size)
    revert q1 q2 q3 q4
    generalize relayAll t2 es1 (SetTable.grown es1.size) = Z
    obtain ⟨es2, t3, gave⟩ := Z
    intro q1 q2 q3 q4
    dsimp only at q1 q2 q3 q4 ⊢
    have hsz : es2.size = es1.size := by rw [← Array.length_toList, q1.length_eq, Array.length_toList]
    have hb2 : es2.size < scanBound := by rw [hsz]; exact hb1
    refine wpAny_bind (hg _ _ _ (wpAny_bind (wpAny_storeSet_of ho1 rfl ?_ (fits_of_scanBound hb2))))
    refine wpAny_pure (hR _ (sb1.trans (Heap.SameBut.update _ a _)) ⟨⟨_, es2, _, t3, store_at (es' := es2) (t' := t3) ho1 rfl, hex, rfl, fun e he => g1 e (q1.mem_iff.mp he), (q1.map txtOf).trans p1, hb2, q2, q3, ?_⟩, n1⟩)
    rw [q4]
    exact hl
  · exact wpAny_pure (hR _ sb1 ⟨⟨_, es1, _, t2, ho1, hex, rfl, g1, p1, hb1, hf2, hr, hl⟩, n1⟩)

theorem addX_hashed {k : Str} {tk : Tok} {Q : Bool → Shared → Prop} (R : SetX w s.heap a L) (room : L.length + 1 < scanBound)
    (hQ : ∀ h' b, Heap.SameBut a s.heap h' → SetX w h' a (if k ∈ L then L else k :: L) → Q b { s with heap := h' }) :
    wpAny (model P w) A (setAddHashed a (.str k tk) ((PySem.strKind P w).hash k)) Q E s := by
  obtain ⟨⟨o, es, ep, t, ho, hex, hd, g, pm0, hb, hf, hr, hl⟩, nd⟩ := R
  have hlen : es.size = L.length := by rw [← pm0.length_eq, List.length_map, Array.length_toList]
  have hkey : (PySem.strKind P w).is k (.str k tk) = true := strKind_is P w k tk
  have hsc : (Value.str k tk).scannable = true := rfl
  have hel : ElemsOf (PySem.strKind P w) es.toList := txt_elems g
  unfold setAddHashed setAddHashedIn
  refine wpAny_holding (wpAny_bind (wpAny_setState_of ho hd hf ?_))
  dsimp only
  rw [byScan_of hsc hb hel]
  simp only [↓reduceIte]
  unfold setAddByScan
  refine wpAny_bind (wpAny_bind (wpAny_rule (wpAny_bind (wpAny_setScan_of hkey ho hd hf hel ?_))))
  cases hfi : List.findIdx? (fun e => (PySem.strKind P w).is k e.2) es.toList with
  | some j =>
    dsimp only
    obtain ⟨hj, pj, _⟩ := List.findIdx?_eq_some_iff_getElem.mp hfi
    have hm : k ∈ L := pm0.mem_iff.mp (List.mem_map.mpr ⟨es.toList[j], List.getElem_mem hj, (txt_is (P := P) (g _ (List.getElem_mem hj)) k).1 pj⟩)
    refine wpAny_pure (wpAny_pure (hQ s.heap _ (Heap.SameBut.refl a s.heap) ?_))
    rw [if_pos hm]
    exact ⟨⟨o, es, ep, t, ho, hex, hd, g, pm0, hb, hf, hr, hl⟩, nd⟩
  | none =>
    dsimp only
    have hnk : k ∉ L := fun z => by
      obtain ⟨e, he, q⟩ := List.mem_map.mp (pm0.mem_iff.mpr z)
      have c := List.findIdx?_eq_none_iff.mp hfi e he
      rw [(txt_is (P := P) (g e he) k).2 q] at c
      cases c
    have hgw : ∀ (b : Bool) {s1 : Shared} {Q' : Unit → Shared → Prop}, Q' () s1 → wpAny (model P w) A (match b with | true => rule "set.scan.the-table-gave-way" | false => pure ()) Q' E s1 :=
      fun b s1 Q' q => by cases b <;> first | exact wpAny_pure q | exact wpAny_rule q
    have q1 := layNew_perm t es ((PySem.strKind P w).hash k) (.str k tk)
    have q2 := layNew_fits t es ((PySem.strKind P w).hash k) (.str k tk)
    have q3 := layNew_ris t es ((PySem.strKind P w).hash k) (.str k tk) hr
    have q4 := layNew_led t es ((PySem.strKind P w).hash k) (.str k tk)
    revert q1 q2 q3 q4
    generalize layNew t es ((PySem.strKind P w).hash k) (.str k tk) = Z
    obtain ⟨es1, t1, dum, gave⟩ := Z
    intro q1 q2 q3 q4
    dsimp only at q1 q2 q3 q4 ⊢
    rw [Array.toList_push] at q1
    have pc : es1.toList.Perm (((PySem.strKind P w).hash k, Value.str k tk) :: es.toList) := q1.trans (List.perm_append_singleton _ _)
    have p1 : (es1.toList.map txtOf).Perm (k :: L) := (pc.map txtOf).trans (pm0.cons k)
    have g1 : ∀ e ∈ es1.toList, TxtE w e := fun e he => by
      rcases List.mem_cons.mp (pc.mem_iff.mp he) with z | z
      · rw [z]; exact ⟨k, tk, rfl, rfl⟩
      · exact g e z
    have n1 : (k :: L).Nodup := List.nodup_cons.mpr ⟨hnk, nd⟩
    have hsz : es1.size = L.length + 1 := by rw [← Array.length_toList, pc.length_eq, List.length_cons, Array.length_toList, hlen]
    have hb1 : es1.size < scanBound := by rw [hsz]; exact room
    have hled : w.params.followText "set-order" = true ∨ t1.led = true := by rw [q4]; exact hl
    have fin : ∀ h' b, Heap.SameBut a s.heap h' → SetX w h' a (k :: L) → Q b { s with heap := h' } := fun h' b sb r => hQ h' b sb (by rw [if_neg hnk]; exact r)
    refine wpAny_bind (hgw _ ?_)
    split
    · refine wpAny_bind ?_
      rw [hashByValue_scannable 8 hsc]
      refine wpAny_pure ?_
      refine addX_tail ?_ ho hex hd g1 p1 n1 hb1 ?_ ?_ ?_ ?_
      · intro b s1 Q' q; cases b <;> first | exact wpAny_pure q | exact wpAny_rule q
      · first | (split <;> first | exact q2 | exact SetTable.fits_plain_off q2) | exact q2
      · first | (split <;> exact q3) | exact q3
      · first | (split <;> exact hled) | exact hled
      · intro h' sb r; dsimp only; exact wpAny_pure (fin h' _ sb r)
    · refine wpAny_bind (wpAny_pure ?_)
      simp only [↓reduceIte]
      refine addX_tail ?_ ho hex hd g1 p1 n1 hb1 q2 q3 hled ?_
      · intro b s1 Q' q; cases b <;> first | exact wpAny_pure q | exact wpAny_rule q
      · intro h' sb r; dsimp only; exact wpAny_pure (fin h' _ sb r)
end
/-- a list's texts, each once -/
def once (xs : List Str) : List Str := xs.foldl (fun L k => if k ∈ L then L else k :: L) []
theorem once_len (xs : List Str) (i : Nat) : (once (xs.take i)).length ≤ i := by
  induction i with
  | zero => simp [once]
  | succ i ih =>
    rw [List.take_add_one]
    cases h : xs[i]? with
    | none => simp only [Option.toList_none, List.append_nil]; omega
    | some k =>
      have e : once (xs.take i ++ [k]) = (if k ∈ once (xs.take i) then once (xs.take i) else k :: once (xs.take i)) := by
        unfold once
        rw [List.foldl_append]
        rfl
      show (once (xs.take i ++ [k])).length ≤ i + 1
      rw [e]
      split
      · omega
      · rw [List.length_cons]; omega
theorem once_next {xs : List Str} {i : Nat} {k : Str} (h : xs[i]? = some k) : once (xs.take (i + 1)) = (if k ∈ once (xs.take i) then once (xs.take i) else k :: once (xs.take i)) := by
  rw [List.take_add_one, h]
  show once (xs.take i ++ [k]) = _
  unfold once
  rw [List.foldl_append]
  rfl
theorem once_mem_gen (k : Str) : ∀ (xs L : List Str), k ∈ xs.foldl (fun L k => if k ∈ L then L else k :: L) L ↔ k ∈ L ∨ k ∈ xs
  | [], L => by simp
  | x :: r, L => by
    rw [List.foldl_cons, once_mem_gen k r]
    by_cases h : x ∈ L
    · rw [if_pos h, List.mem_cons]
      constructor
      · rintro (z | z)
        · exact .inl z
        · exact .inr (.inr z)
      · rintro (z | z | z)
        · exact .inl z
        · exact .inl (z ▸ h)
        · exact .inr z
    · rw [if_neg h, List.mem_cons, List.mem_cons]
      constructor
      · rintro ((z | z) | z)
        · exact .inr (.inl z)
        · exact .inl z
        · exact .inr (.inr z)
      · rintro (z | z | z)
        · exact .inl (.inr z)
        · exact .inl (.inl z)
        · exact .inr z
theorem once_mem {k : Str} {xs : List Str} : k ∈ once xs ↔ k ∈ xs := by
  unfold once
  rw [once_mem_gen]
  simp
theorem once_nodup : ∀ (xs L : List Str), L.Nodup → (xs.foldl (fun L k => if k ∈ L then L else k :: L) L).Nodup
  | [], L, h => h
  | x :: r, L, h => by
    rw [List.foldl_cons]
    refine once_nodup r _ ?_
    split
    · exact h
    · rename_i hn
      exact List.nodup_cons.mpr ⟨hn, h⟩
section
variable {P : Program} {w : World} {A : Around} {E : Value → Shared → Prop} {s : Shared}
theorem update_txts {I : Addr} {fp wr : List Addr} {G : Array GenState → Array GenState → Prop} {n : Nat} {Pv : Nat → Value → Prop} {St : Nat → Shared → Prop} {R : Result → Shared → Prop}
    (W : WalksS P w A.in1 I fp wr G n Pv St) (S : Addr) (hSf : S ∉ fp) (xs : List Str) (hn : n = xs.length) (hb : xs.length + 1 < scanBound) (hval : ∀ i v, Pv i v → ∃ k t, xs[i]? = some k ∧ v = .str k t) :
    ∀ (k i : Nat) (s : Shared), n - i = k → i ≤ n → St i s → SetX w s.heap S (once (xs.take i)) →
      (∀ s', Moved (S :: wr) G s s' → SetX w s'.heap S (once xs) → R (.ok (.ret .none)) s') →
      codeAny (model P w) A (.builtin "set.update.loop" ⟨[.ref S, .ref I], []⟩) R s := by
  have hSw : S ∉ wr := fun h => hSf (W.sub _ h)
  intro k
  induction k with
  | zero =>
    intro i s hk hi hst hS hR
    obtain rfl : i = n := by omega
    rw [List.take_of_length_le (Nat.le_of_eq hn.symm)] at hS
    refine codeAny_builtin F.entry_set_update_loop ?_
    rw [Around.under_plainId F.plain_set_update_loop _]
    show wpAny _ A.in1 (pyNext (.ref I) >>= _) _ _ s
    refine wpAny_bind (W.done s _ _ hst fun s' hm => ?_)
    exact wpAny_pure (hR s' (hm.mono fun b hb => List.mem_cons_of_mem _ hb) (hS.at' fun o e => hm.heap S o hSw e))
  | succ k ih =>
    intro i s hk hi hst hS hR
    have hlt : i < n := by omega
    refine codeAny_builtin F.entry_set_update_loop ?_
    rw [Around.under_plainId F.plain_set_update_loop _]
    show wpAny _ A.in1 (pyNext (.ref I) >>= _) _ _ s
    refine wpAny_bind (W.item i s _ _ hlt hst fun v s' hP hst' hm => ?_)
    obtain ⟨z, t, hz, rfl⟩ := hval i v hP
    have hS' : SetX w s'.heap S (once (xs.take i)) := hS.at' fun o e => hm.heap S o hSw e
    show wpAny _ A.in1 (holding [Value.str z t] (setAdd S (.str z t)) >>= _) _ _ s'
    refine wpAny_bind (wpAny_holding ?_)
    unfold setAdd
    refine wpAny_holding (wpAny_bind ((PySem.strKind P w).pyHash (k := z) (strKind_is _ _ _ _) ?_))
    have hl := once_len xs i
    refine addX_hashed (s := { s' with toks := s'.toks + 1 }) hS' (by omega) fun h' b0 hsb hS2 => ?_
    rw [← once_next hz] at hS2
    refine wpAny_pure ⟨plainId_quiet F.plain_set_update_loop _, ih (i + 1) _ (by omega) hlt (W.frame _ s' _ _ hst' (Nat.le_succ _) fun b hb o e => ?_) hS2 fun s'' hm'' hS'' => ?_⟩
    · rw [hsb.2 b (fun q : b = S => hSf (by rw [← q]; exact hb))]; exact e
    · refine hR s'' (Moved.trans W.gtrans ((hm.mono fun b hb => List.mem_cons_of_mem _ hb).then_heap (Nat.le_succ _) fun b o hb e => ?_) hm'') hS''
      rw [hsb.2 b (fun q : b = S => hb (by rw [q]; exact List.mem_cons_self))]; exact e
/-- what set() makes -/
abbrev bare (w : World) : Obj := { cls := .type "set", dict := none, data := .set #[] 0 (.fresh 0 0 (!w.params.followText "set-order")) }
theorem bareX {h : Heap} {a : Addr} (ho : h.get? a = some (bare w)) : SetX w h a [] :=
  ⟨⟨_, #[], 0, _, ho, ⟨rfl, rfl, rfl⟩, rfl, (fun e he => by simp at he), (by simp), (by decide), (by rfl), List.Pairwise.nil, by
    show _ ∨ (!w.params.followText "set-order") = true
    cases w.params.followText "set-order"
    · exact .inr rfl
    · exact .inl rfl⟩, List.nodup_nil⟩
theorem StrsAre.txt_at : ∀ {us : List Value} {ks : List Str}, StrsAre us ks → ∀ (i : Nat) (v : Value), us[i]? = some v → ∃ k t, ks[i]? = some k ∧ v = .str k t
  | _, _, .nil, i, v, h => by simp at h
  | _, _, .cons n t hr, 0, v, h => by simp at h; exact ⟨n, t, rfl, h.symm⟩
  | _, _, .cons n t hr, i + 1, v, h => by
    simp only [List.getElem?_cons_succ] at h ⊢
    exact txt_at hr i v h
set_option maxRecDepth 100000 in
set_option maxHeartbeats 3200000 in
theorem set_of_txts {l : Addr} {items : Array Value} (xs : List Str) {Q : Value → Shared → Prop} (hh : A.handled = none) (hl : s.heap.IsTuple l items) (hit : StrsAre items.toList xs) (hb : xs.length + 1 < scanBound)
    (h : ∀ (h' : Heap) (tk : Nat), SetX w h' s.heap.objs.size (once xs) → (∀ b o, s.heap.get? b = some o → h'.get? b = some o) → Q (.ref s.heap.objs.size) { s with heap := h', toks := tk }) :
    wpAny (model P w) A (call (.type "set") [.ref l]) Q E s := by
  have hisz : items.size = xs.length := by
    have q := StrsAre.len_eq hit
    rw [Array.length_toList] at q
    exact q
  obtain ⟨c, tl, hmro⟩ := F.called_set.mro
  have hmade := F.called_set.made
  have hsub := F.called_set.sub
  refine wpAny_call (codeAny_of_tree ?_)
  show wpAny _ _ (callAny (.type "set") _) _ _ _
  refine wpAny_pure ⟨Code.quiet_builtin _ (by decide +kernel), codeAny_builtin F.entry_type_call ?_⟩
  rw [Around.under_plain (weight_type_call_type "set" [.ref l] []) rfl]
  have h1 := F.called_set.notType
  have h2 := F.called_set.canCreate
  have hct := F.typeCall_set_1 (.ref l)
  repeat (any_goals (first | assumption | wp_step))
  refine codeAny_mono (code_set_led1 (.ref l) (E := E) (Q₁ := fun obj s1 => obj = .ref s.heap.objs.size ∧ s1 = { s with heap := s.heap.push (bare w) }) ⟨rfl, rfl⟩) fun r s1 hr => ?_
  cases r with
  | error e => exact hr
  | ok fl =>
    cases fl with
    | ret obj =>
      obtain ⟨rfl, rfl⟩ := hr
      have hS : (s.heap.push (bare w)).get? s.heap.objs.size = some (bare w) := Heap.get?_push_size _ rfl
      have hT : Shared.TypeIs { s with heap := s.heap.push (bare w) } (.ref s.heap.objs.size) "set" := ⟨_, hS, rfl⟩
      have hli := F.called_set.init.lookup
      have hbi := F.called_set.init.bind (.ref s.heap.objs.size)
      repeat (any_goals (first | assumption | wp_step))
      refine codeAny_mono (codeAny_call_builtin (R := wants (fun r s2 => r = .none ∧ ∃ h' tk, s2 = { s with heap := h', toks := tk } ∧ SetX w h' s.heap.objs.size (once xs) ∧
          (∀ b o, s.heap.get? b = some o → h'.get? b = some o)) E) F.called_set.init.plain F.entry_set_init (check_set_init_1 hT ?_)) fun r2 s2 hr2 => ?_
      · obtain ⟨⟨ocls, odict, odata, oslots⟩, hol, hcl, nl, hdl⟩ := hl
        simp only at hcl hdl
        subst hcl; subst hdl
        have hol' : (s.heap.push (bare w)).get? l = some { cls := .type "tuple", dict := odict, data := .seq items nl, slots := oslots } := Heap.get?_push_of_some _ hol
        have hsls := F.sub_tuple_set
        have hslf := F.sub_tuple_frozenset
        have hne : (Value.type "tuple" == Value.type "dict") = false := by decide
        have hl1 : (s.heap.push (bare w)).IsTuple l items := ⟨_, hol', rfl, nl, rfl⟩
        unfold Builtin.«set.__init__» noKeywords Builtin.Frozenset.updateFrom
        generalize hPI : pyIter = PI
        wp_walk
        subst hPI
        refine wpAny_pyIter_tuple hl1 (wpAny_bind (wpAny_runValue ?_))
        have hlS : l < s.heap.objs.size := Heap.lt_size hol
        have hh3 : A.in1.in1.in1.handled = none := by simp [hh]
        have hz1 : (s.heap.push (bare w)).objs.size = s.heap.objs.size + 1 := Heap.size_push ..
        have hneI : l ≠ (s.heap.push (bare w)).objs.size := by rw [hz1]; exact Nat.ne_of_lt (Nat.lt_succ_of_lt hlS)
        have hSf : s.heap.objs.size ∉ [(s.heap.push (bare w)).objs.size, l] := by
          rw [hz1]; simp only [List.mem_cons, List.not_mem_nil, or_false, not_or]
          exact ⟨Nat.ne_of_lt (Nat.lt_succ_self _), Nat.ne_of_gt hlS⟩
        refine update_txts ((Walks.tuple hh3 _ l hneI items).toS) s.heap.objs.size
          hSf xs hisz hb (fun i v hv => StrsAre.txt_at hit i v (by rw [Array.getElem?_toList]; exact hv)) (items.size - 0) 0 _ (by omega) (Nat.zero_le _)
          ⟨⟨_, Heap.get?_push_size _ rfl, rfl, rfl⟩, (hl1.push _)⟩ ?hS0 ?hR
        case hS0 =>
          exact bareX (Heap.get?_push_of_some _ hS)
        case hR =>
          intro s' hm hS'
          obtain ⟨h', g2, d', tk', os'⟩ := s'
          have eg : g2 = s.gens := hm.gens
          have ed : d' = s.drawn := hm.drawn
          have eo : os' = s.os := hm.os
          subst eg; subst ed; subst eo
          show wpAny _ _ _ _ _ _
          refine wpAny_pure ?_
          show wpAny _ _ (ret Value.none) _ _ _
          refine wpAny_pure ⟨rfl, h', tk', rfl, hS', fun b o e => ?_⟩
          have hb0 : b < s.heap.objs.size := Heap.lt_size e
          exact hm.heap b o (by rw [hz1]; simp only [List.mem_cons, List.not_mem_nil, or_false, not_or]; exact ⟨Nat.ne_of_lt hb0, Nat.ne_of_lt (Nat.lt_succ_of_lt hb0)⟩) (Heap.get?_push_of_some _ (Heap.get?_push_of_some _ e))
      · cases r2 with
        | error e => exact hr2
        | ok fl2 =>
          cases fl2 with
          | ret r =>
            obtain ⟨rfl, h', tk, rfl, hS', hk'⟩ := hr2
            repeat (any_goals (first | assumption | wp_step))
            exact h _ _ hS' hk'
          | _ => exact hr2.elim
    | _ => exact hr.elim
theorem sorted_setX {a : Addr} {L : List Str} {Q : Value → Shared → Prop} (R : SetX w s.heap a L) (hh : A.handled = none) (h64 : L.length < 64)
    (hQ : ∀ s' p (out : Array Value) (c : Nat) (ys : List Str), (∀ b o, s.heap.get? b = some o → s'.heap.get? b = some o) → s'.gens = s.gens → s'.os = s.os → s.heap.objs.size ≤ p →
      s'.heap.get? p = some (seqObj "list" out c) → StrsAre out.toList ys → ys.Perm L → sortedS ys = true → Q (.ref p) s') :
    wpAny (model P w) A (call (.builtin "sorted") [.ref a]) Q E s := by
  obtain ⟨⟨o, es, ep, t, ho, hex, hd, g, pm0, hb, hf, hr, hl⟩, nd⟩ := R
  have hlen : es.size = L.length := by rw [← pm0.length_eq, List.length_map, Array.length_toList]
  refine Calls.call_function_entry kind_sorted plain_sorted entry_sorted (args_sorted1 _) ?_
  unfold Builtin.«sorted»
  refine wpAny_bind (m := checkCount "sorted" 1 1 _) (wpAny_pure ?_)
  refine wpAny_bind (collect_set (A := A.in1) hh ⟨o, ho, hex.1, hd⟩ hf hb hr hl fun s1 vs k1 hz g1 o1 pm => ?_)
  have hvl : vs.length = L.length := by rw [pm.length_eq, List.length_map, Array.length_toList, hlen]
  have hV : ∀ v ∈ vs, ∃ x tk, v = Value.str x tk := fun v hv => by
    obtain ⟨e, he, q⟩ := List.mem_map.mp (pm.mem_iff.mp hv)
    obtain ⟨k, tk, h1, _⟩ := g e he
    exact ⟨k, tk, by rw [← q]; exact h1⟩
  have hS : StrsAre vs (vs.map strOf) := strsAre_map vs hV
  have pk : (vs.map strOf).Perm L := by
    refine List.Perm.trans ?_ pm0
    have q := pm.map strOf
    rw [List.map_map] at q
    have e : es.toList.map (strOf ∘ fun x => x.2) = es.toList.map txtOf := by
      refine List.map_congr_left fun e he => ?_
      obtain ⟨k, tk, h1, _⟩ := g e he
      show strOf e.2 = txtOf e
      unfold txtOf
      rw [h1] <;> rfl
    rw [e] at q
    exact q
  refine wpAny_bind (wpAny_newList ?_ (by rw [hvl, sizeLine_eq]; omega))
  have hoL : (s1.heap.push (seqObj "list" vs.toArray 0)).get? s1.heap.objs.size = some (seqObj "list" vs.toArray 0) := Heap.get?_push_size _ rfl
  refine wpAny_bind (wpAny_holding (wpAny_call_entry slot_list_sort ⟨_, hoL, rfl⟩ entry_list_sort
    (list_sort_treeK strKind_oneLt hoL hS.keysOf (fun v1 v2 rest e => keyKind_strs (by rw [← e]; exact hS)) (by rw [hvl]; exact h64) fun st' hp hs => ⟨_, rfl, ?_⟩) (args_list_sort _)))
  obtain ⟨ys, b1, b2, b3⟩ := sorted_out_str hS hp hs
  obtain ⟨c, hc⟩ := sortedHeap_at (vs := vs) (out := (arrOf st').map (·.2)) hoL
  refine wpAny_pure ⟨_, rfl, hQ _ s1.heap.objs.size _ c ys (fun b u e => ?_) g1 o1 hz hc b1 (b2.trans pk) b3⟩
  have q := k1 b u e
  have hlt := Heap.lt_size q
  show (sortedHeap (s1.heap.push (seqObj "list" vs.toArray 0)) s1.heap.objs.size vs _).get? b = some u
  rw [sortedHeap_old (Nat.ne_of_lt hlt) (by rw [size_push']; exact Nat.lt_succ_of_lt hlt)]
  exact Heap.get?_push_of_some _ q
end
end XS
namespace L2
open PySem PySem.Spec PyProof.Rows XS
section
variable {X : Cx}
/-- the set of texts at a -/
def SetXO (w : World) (a : Addr) (L : List Str) : HO := .ext fun h => SetX w h a L
theorem setXO_new {w : World} {P : Program} {H : Hp} {h : Heap} {a : Addr} {L : List Str} (R : SetX w h a L) : ObjOk P w H h a (SetXO w a L) := by
  have ⟨⟨o, _, _, _, ho, _⟩, _⟩ := R
  exact ⟨R, ⟨o, ho⟩, fun h1 h2 p k => p.at' k⟩
theorem txts_of_vals : ∀ {ys : List Str} {us : List Value}, Vals (ys.map V.str) us → StrsAre us ys
  | [], _, .nil => .nil
  | y :: ys, _, .cons r t => by
    obtain ⟨k, rfl⟩ := r
    exact .cons y k (txts_of_vals t)
/-- set(t), t a tuple of texts -/
def rSetX (K : PySem.W.Frag) (w : World) : List V → Hp → VK → Prop := fun vs H Q => ∃ (l : Addr) (xs : List Str), vs = [V.ref l] ∧ SqT K H l (xs.map V.str) ∧ xs.length < 64 ∧ ∀ p, H p = none → Q (.ref p) (upd H p (SetXO w p (once xs)))
theorem cr_setX (hc : X.calm = true) : CallR X (.type "set") (rSetX X.K X.w) := by
  intro pins s σ H vs us Q I r h
  obtain ⟨l, xs, rfl, hq, h64, q⟩ := h
  rw [Vals.ref1 r]
  obtain ⟨its, rv, pl, hz⟩ := I.tuple hq
  refine set_of_txts xs (I.ok.hd hc) pl (by simpa using txts_of_vals rv) (by unfold scanBound; omega) fun h' tk R k => ?_
  exact ⟨.ref _, upd H s.heap.objs.size (SetXO X.w s.heap.objs.size (once xs)), I.laid (t' := tk) k (Nat.le_refl _) (setXO_new R), rfl, q _ (I.hok.fresh (Nat.le_refl _))⟩
/-- sorted(s), s a set of texts -/
def rSortedX (w : World) : List V → Hp → VK → Prop := fun vs H Q => ∃ (a : Addr) (L : List Str), vs = [V.ref a] ∧ H a = some (SetXO w a L) ∧ L.length < 64 ∧
  ∀ (ys : List Str) (p : Addr), ys.Perm L → sortedS ys = true → H p = none → Q (.ref p) (upd H p (.lst (ys.map V.str)))
theorem cr_sortedX (hc : X.calm = true) : CallR X (.builtin "sorted") (rSortedX X.w) := by
  intro pins s σ H vs us Q I r h
  obtain ⟨a, L, rfl, ha, h64, q⟩ := h
  have R : SetX X.w s.heap a L := (I.hok a _ ha).1
  rw [Vals.ref1 r]
  refine sorted_setX R (I.ok.hd hc) h64 fun s' p out c ys k g o hp hg hi pm hs => ?_
  have hlen : (ys.map V.str).length ≤ sizeLine := by rw [List.length_map, pm.length_eq, sizeLine_eq]; omega
  have hn : H p = none := I.hok.fresh hp
  have J : Inv X pins σ (upd H p (.lst (ys.map V.str))) { s with heap := s'.heap, gens := s'.gens, drawn := s'.drawn, toks := s'.toks } :=
    I.call (ch := []) (Un.laid k hp hn) (I.hok.laid k hp ⟨hlen, out.toList, c, vals_of_strs hi, hg⟩) (by rw [g]; exact I.bare) (fun _ z => nomatch z)
  have e : s' = { s with heap := s'.heap, gens := s'.gens, drawn := s'.drawn, toks := s'.toks } := by
    cases s'
    cases s
    cases o
    rfl
  rw [e]
  exact ⟨.ref p, _, J, rfl, q ys p pm hs hn⟩
end
end L2

set_option Elab.async false
set_option linter.all false
set_option maxRecDepth 100000
set_option maxHeartbeats 2000000
namespace K03
open PySem PySem.Spec PyProof.Rows L2 XS
def LA : List Str := ["a"]
def LB : List Str := ["a", "b"]
def LC : List Str := ["b", "d", "z"]
def LS : List (List Str) := [LA, LB, LC]
def LT : List Str := ["a", "b", "d", "z"]
def KindAt (H : Hp) (k : Addr) (two : Bool) (ls : List Str) : Prop := ∃ lab, H k = some (.tup [.int (if two then 2 else 1), .ref lab]) ∧ H lab = some (.tup (ls.map V.str)) ∧ ls ∈ LS
theorem KindAt.same {H H' : Hp} {k : Addr} {two : Bool} {ls : List Str} (g : Same H H') (h : KindAt H k two ls) : KindAt H' k two ls := by
  obtain ⟨lab, a, b, c⟩ := h
  exact ⟨lab, g _ _ a, g _ _ b, c⟩
theorem ls_cases {ls : List Str} (h : ls ∈ LS) : ls = LA ∨ ls = LB ∨ ls = LC := by simpa [LS] using h
theorem ls_letters {ls : List Str} (h : ls ∈ LS) : ∀ x ∈ ls, x ∈ LT := by
  rcases ls_cases h with rfl | rfl | rfl <;> decide +kernel
theorem ls_sorted {ls ys : List Str} (h : ls ∈ LS) (p : ys.Perm (once ls)) (s : sortedS ys = true) : ys = ls := by
  have hm : ∀ y ∈ ys, y ∈ ls := fun y hy => once_mem.mp (p.mem_iff.mp hy)
  have hn : ys.Nodup := p.nodup_iff.mpr (once_nodup ls [] List.nodup_nil)
  have hl : ys.length = (once ls).length := p.length_eq
  rcases ls_cases h with rfl | rfl | rfl
  · rw [show (once LA).length = 1 by decide +kernel] at hl
    match ys, hl with
    | [x], _ =>
      have := hm x (by simp)
      simp only [LA, List.mem_singleton] at this
      rw [this]
      rfl
  · rw [show (once LB).length = 2 by decide +kernel] at hl
    match ys, hl with
    | [x, y], _ =>
      have h1 := hm x (by simp)
      have h2 := hm y (by simp)
      simp only [LB, List.mem_cons, List.not_mem_nil, or_false] at h1 h2
      rcases h1 with rfl | rfl <;> rcases h2 with rfl | rfl <;> first | rfl | exact absurd s (by decide +kernel) | exact absurd hn (by decide +kernel)
  · rw [show (once LC).length = 3 by decide +kernel] at hl
    match ys, hl with
    | [x, y, z], _ =>
      have h1 := hm x (by simp)
      have h2 := hm y (by simp)
      have h3 := hm z (by simp)
      simp only [LC, List.mem_cons, List.not_mem_nil, or_false] at h1 h2 h3
      rcases h1 with rfl | rfl | rfl <;> rcases h2 with rfl | rfl | rfl <;> rcases h3 with rfl | rfl | rfl <;> first | rfl | exact absurd s (by decide +kernel) | exact absurd hn (by decide +kernel)
abbrev sWhole : Stmt := top 12
abbrev sIsKind : Stmt := top 13
abbrev sLetter : Stmt := top 14
abbrev sCheck : Stmt := top 15
theorem scWhole : FnScope ["value"] ["value"] (defScope sWhole) := ⟨rfl, rfl, rfl, by decide +kernel, rfl, by decide +kernel, by decide +kernel⟩
theorem scIsKind : FnScope ["value", "ways", "labels", "label"] ["value"] (defScope sIsKind) := ⟨rfl, rfl, rfl, by decide +kernel, rfl, by decide +kernel, by decide +kernel⟩
theorem scLetter : FnScope ["value"] ["value"] (defScope sLetter) := ⟨rfl, rfl, rfl, by decide +kernel, rfl, by decide +kernel, by decide +kernel⟩
theorem scCheck : FnScope ["kind"] ["kind"] (defScope sCheck) := ⟨rfl, rfl, rfl, by decide +kernel, rfl, by decide +kernel, by decide +kernel⟩
def spWhole : Sp := fun vs H Q _ => ∃ z : Int, vs = [.int z] ∧ Q (.bl true) H
def spLetter : Sp := fun vs H Q _ => ∃ x : Str, vs = [.str x] ∧ x ∈ LT ∧ Q (.bl true) H
def spIsKind : Sp := fun vs H Q _ => ∃ (k : Addr) (two : Bool) (ls : List Str), vs = [.ref k] ∧ KindAt H k two ls ∧ ∀ H', Same H H' → Q (.bl true) H'
def spCheck : Sp := fun vs H Q _ => ∃ (k : Addr) (two : Bool) (ls : List Str), vs = [.ref k] ∧ KindAt H k two ls ∧ ∀ H', Same H H' → Q .non H'
theorem lt_len : ∀ x ∈ LT, x.length = 1 := by decide +kernel
theorem lt_lo : ∀ x ∈ LT, (!decide (x.cps.toList < (Str.ofString "a").cps.toList)) = true := by decide +kernel
theorem lt_hi : ∀ x ∈ LT, (!decide ((Str.ofString "z").cps.toList < x.cps.toList)) = true := by decide +kernel
section
variable {P : Program} {w : World} {K : PySem.W.Frag} {mg : Str → Option Value} {base : Heap}
theorem ok_whole {f : Addr} {fd : FuncData} {k : Nat} (F : Fun K "is_whole" "is_whole" sWhole f fd) (mi : mg "isinstance" = none) (mb : mg "bool" = none) (mn : mg "int" = none) : FnOk P w K mg base CX0 (k + 1) f fd ["value"] spWhole := by
  refine F.ok scWhole (fun vs H Q E h => ?_) (fun cdv A outer s H vs Q E hr h => ?_)
  · obtain ⟨z, rfl, _⟩ := h
    rfl
  obtain ⟨z, rfl, q⟩ := h
  refine ⟨_, pss_one (ps_ret (pe_and (pe_isi (pv 0) mi mn rfl) (pe_one (pe_not (pe_isi (pv 0) mi mb rfl))))), ?_⟩
  refine ⟨_, rfl, isi (ty_int z) (by decide +kernel : kitB "int" "int" = some true) ⟨_, rfl, iteT' ?_⟩⟩
  exact ⟨_, rfl, isi (ty_int z) (by decide +kernel : kitB "int" "bool" = some false) ⟨_, rfl, q⟩⟩
theorem ok_letter {f : Addr} {fd : FuncData} {k : Nat} (F : Fun K "_is_letter" "_is_letter" sLetter f fd) (mi : mg "isinstance" = none) (ms : mg "str" = none) (ml : mg "len" = none) : FnOk P w K mg base CX0 (k + 1) f fd ["value"] spLetter := by
  refine F.ok scLetter (fun vs H Q E h => ?_) (fun cdv A outer s H vs Q E hr h => ?_)
  · obtain ⟨z, rfl, _⟩ := h
    rfl
  obtain ⟨x, rfl, hx, q⟩ := h
  refine ⟨_, pss_one (ps_ret (pe_and (pe_isi (pv 0) mi ms rfl) (pe_and (pe_cmpR op_eq (pe_callB call_len_str (by rfl) ml PySem.boot_len (pa_cons (pv 0) pa_nil)) pe_int (nomark _)) (pe_one (pe_chain op_le_str op_le_str pe_str (pv 0) pe_str))))), ?_⟩
  refine ⟨_, rfl, isi (ty_str x) (by decide +kernel : kitB "str" "str" = some true) ⟨_, rfl, iteT' ?_⟩⟩
  have e1 := lt_len x hx
  refine ⟨_, rfl, x, rfl, by rw [e1]; exact small (by decide), rfl, ?_⟩
  rw [e1]
  refine ⟨_, rfl, ifT rfl ?_⟩
  refine ⟨_, rfl, _, _, rfl, rfl, _, rfl, ?_⟩
  rw [lt_lo x hx]
  refine iteT' ⟨_, _, rfl, rfl, ?_⟩
  rw [lt_hi x hx]
  exact q
theorem ok_isKind {f g l : Addr} {fd gd ld : FuncData} {k : Nat} (F : Fun K "is_kind" "is_kind" sIsKind f fd) (GW : FnOk P w K mg base CX0 k g gd ["value"] spWhole) (bW : Binds K gd ["value"] []) (kW : PySem.W.keepIn K (.ref g) = true) (mW : mg "is_whole" = some (.ref g))
    (GL : FnOk P w K mg base CX0 k l ld ["value"] spLetter) (bL : Binds K ld ["value"] []) (kL : PySem.W.keepIn K (.ref l) = true) (mL : mg "_is_letter" = some (.ref l)) (mi : mg "isinstance" = none) (mt : mg "tuple" = none) (ml : mg "len" = none) (ma : mg "all" = none) (mli : mg "list" = none) (mso : mg "sorted" = none) (mse : mg "set" = none)
    {tM : Tok} (mM : mg "MOST_LABELS" = some (.int 3 tM)) : FnOk P w K mg base CX0 (k + 1) f fd ["value"] spIsKind := by
  refine F.ok scIsKind (fun vs H Q E h => ?_) (fun cdv A outer s H vs Q E hr h => ?_)
  · obtain ⟨a, two, ls, rfl, _⟩ := h
    rfl
  obtain ⟨a, two, ls, rfl, hK, q⟩ := h
  refine ⟨_, pss_cons (ps_if (PW.pt (pw_or (pt_not (pt_val (pe_isi (pv 0) mi mt rfl))) (pw_or1 (pt_cmpR op_ne (pe_callB call_len_seq (by rfl) ml PySem.boot_len (pa_cons (pv 0) pa_nil)) pe_int (nomark _))))) pss_never pss_nil)
    (pss_cons (ps_asg (pv 0) (pg_tup (by rfl) (pgs_cons (pg_name (i := 1) scIsKind.nd rfl (.inl rfl)) (pgs_cons (pg_name (i := 2) scIsKind.nd rfl (.inl rfl)) pgs_nil))))
    (pss_cons (ps_if (PW.pt (pw_or (pt_not (pt_val (pe_call GW hr (by rfl) mW kW bW .nil pass0 (pa_cons (pv 1) pa_nil)))) (pw_or1 (pt_cmpR op_notIn_seq (pv 1) (pe_tup (pa_cons pe_int (pa_cons pe_int pa_nil))) (by with_unfolding_all rfl))))) pss_never pss_nil)
    (pss_cons (ps_if (PW.pt (pw_or (pt_not (pt_val (pe_isi (pv 2) mi mt rfl))) (pw_or1 (pt_not (pt_chain op_le op_le pe_int (pe_callB call_len_seq (by rfl) ml PySem.boot_len (pa_cons (pv 2) pa_nil)) (pe_glob (by rfl) mM (v := .int 3) ⟨_, rfl⟩)))))) pss_never pss_nil)
    (pss_cons (ps_if (pt_not (pt_val (pe_callB (cr_all rfl) (by rfl) ma (by decide +kernel) (pa_cons (pe_lc (own := [("label", 3)]) (g := gName 3) (tt := tYes) (te := tCall spLetter [] E0 (tCons (tVar 3) tNil)) rfl scIsKind.nd (pi_tup (pv 2))
        (blkOk_by (own := [("label", 3)]) (N := ["value", "ways", "labels", "label"]) (sc := defScope sIsKind) (by decide +kernel)) (fun _ _ _ _ _ => pg_name (i := 3) scIsKind.nd rfl (Or.inl rfl)) (fun _ _ _ _ _ => pts_nil)
        (fun _ _ _ _ _ => pe_call GL hr (by rfl) mL kL bL .nil pass0 (pa_cons (pv 3) pa_nil))) pa_nil)))) pss_never pss_nil)
    (pss_one (ps_ret (pe_cmpR (op_eqD hr.units) (pe_callTy call_list_of (by rfl) mli (by decide +kernel) (pa_cons (pv 2) pa_nil)) (pe_callB (cr_sortedX rfl) (by rfl) mso (by decide +kernel) (pa_cons (pe_callTy (cr_setX rfl) (by rfl) mse (by decide +kernel) (pa_cons (pv 2) pa_nil)) pa_nil)) (nomark _)))))))), ?_⟩
  obtain ⟨lab, ek, el, hls⟩ := hK
  have hlen : 1 ≤ ls.length ∧ ls.length ≤ 3 := by
    rcases ls_cases hls with rfl | rfl | rfl <;> decide +kernel
  refine ⟨_, rfl, isi (ty_tup (SqT.of ek)) (by decide +kernel : kitB "tuple" "tuple" = some true) ⟨_, rfl, iteNT ?_⟩⟩
  refine ⟨_, rfl, a, _, rfl, .inr (SqT.of ek), rfl, _, rfl, ?_⟩
  refine iteNS rfl ?_
  refine ⟨_, rfl, a, _, rfl, SqT.of ek, rfl, _, _, rfl, _, _, rfl, rfl, ?_⟩
  refine ⟨_, rfl, _, rfl, true, rfl, iteNT ?_⟩
  refine ⟨_, rfl, (by show 2 ≤ sizeLine; exact small (by decide)), fun t ht => ?_⟩
  have g1 : Same H (upd H t (.tup [.int 1, .int 2])) := same_new ht
  refine ⟨t, [.int 1, .int 2], rfl, .inr (SqT.of upd_same), rfl, rfl, false, ?_, iteF' ?_⟩
  · cases two <;> rfl
  have el1 := g1 _ _ el
  refine ⟨_, rfl, isi (ty_tup (SqT.of el1)) (by decide +kernel : kitB "tuple" "tuple" = some true) ⟨_, rfl, iteNT ?_⟩⟩
  refine ⟨_, rfl, lab, _, rfl, .inr (SqT.of el1), _, _, rfl, rfl, true, ?_, iteT' ⟨_, _, rfl, rfl, true, ?_, iteNT ?_⟩⟩
  · rw [List.length_map]
    exact congrArg V.bl (decide_eq_true (by omega))
  · rw [List.length_map]
    exact congrArg V.bl (decide_eq_true (by omega))
  refine ⟨_, rfl, lab, rfl, ⟨_, SqT.of el1⟩, fun C hC => ?_⟩
  have g2 : Same H (upd (upd H t (.tup [.int 1, .int 2])) C (.lst [])) := g1.trans (same_new hC)
  have hCn : H C = none := g1.free hC
  refine lc_tup (xs := ls.map V.str) (fun i H2 => Same H H2 ∧ H2 C = some (.lst ((List.replicate i true).map V.bl))) ⟨g2, upd_same⟩ (fun i H2 hi p => SqT.of (p.1 _ _ el)) (fun i x H2 hx p => ?_) fun H2 p => ?_
  · have hi := (List.getElem?_eq_some_iff.mp hx).1
    rw [List.length_map] at hi
    rw [List.getElem?_map, List.getElem?_eq_getElem hi] at hx
    obtain rfl : V.str ls[i] = x := Option.some.inj hx
    refine ⟨rfl, yes_turn ?_⟩
    refine ⟨_, rfl, _, rfl, ls_letters hls _ (List.getElem_mem hi), _, p.2, (by rw [List.length_map, List.length_replicate]; exact small' (by omega)), same_fresh hCn p.1, ?_⟩
    rw [upd_same, List.replicate_succ', List.map_append]
    rfl
  · refine ⟨C, _, rfl, SqL.of p.2, true, ?_, iteNT ?_⟩
    · exact congrArg V.bl (by simp)
    refine ⟨_, rfl, lab, _, rfl, .inr (SqT.of (p.1 _ _ el)), fun L hL => ?_⟩
    have g3 : Same H (upd H2 L (.lst (ls.map V.str))) := p.1.trans (same_new hL)
    refine ⟨_, rfl, lab, ls, rfl, SqT.of (g3 _ _ el), by omega, fun S hS => ?_⟩
    have hLS : L ≠ S := ne_of_none upd_same hS
    refine ⟨S, _, rfl, upd_same, ?_, fun ys p2 hp hs hn => ?_⟩
    · rcases ls_cases hls with rfl | rfl | rfl <;> decide +kernel
    obtain rfl := ls_sorted hls hp hs
    have hLp : L ≠ p2 := ne_of_none (show _ = some (HO.lst (ys.map V.str)) by rw [upd_ne hLS, upd_same]) hn
    have dp : ∀ (H3 : Hp) (xs : List Str), DpAll K H3 (xs.map V.str) (xs.map PyData.str) := fun H3 xs => by
      induction xs with
      | nil => exact .nil
      | cons x r ih => exact .cons (.str x) ih
    refine ⟨.list (ys.map PyData.str), .list (ys.map PyData.str), .lst (SqL.of (by rw [upd_ne hLp, upd_ne hLS, upd_same])) (dp _ _), .lst (SqL.of upd_same) (dp _ _), ?_, ?_, ?_⟩
    · rcases ls_cases hls with rfl | rfl | rfl <;> decide +kernel
    · rcases ls_cases hls with rfl | rfl | rfl <;> decide +kernel
    · have e : PyData.eqv (.list (ys.map PyData.str)) (.list (ys.map PyData.str)) = true := by
        rcases ls_cases hls with rfl | rfl | rfl <;> decide +kernel
      rw [e]
      exact q _ ((g3.trans (same_new hS)).trans (same_new hn))
theorem ok_check {f g : Addr} {fd gd : FuncData} {k : Nat} (F : Fun K "check_kind" "check_kind" sCheck f fd) (G : FnOk P w K mg base CX0 k g gd ["value"] spIsKind) (bG : Binds K gd ["value"] []) (kG : PySem.W.keepIn K (.ref g) = true) (mG : mg "is_kind" = some (.ref g)) : FnOk P w K mg base CX0 (k + 1) f fd ["kind"] spCheck := by
  refine F.ok scCheck (fun vs H Q E h => ?_) (fun cdv A outer s H vs Q E hr h => ?_)
  · obtain ⟨a, two, ls, rfl, _⟩ := h
    rfl
  obtain ⟨a, two, ls, rfl, hK, q⟩ := h
  refine ⟨_, pss_one (ps_if (pt_not (pt_val (pe_call G hr (by rfl) mG kG bG .nil pass0 (pa_cons (pv 0) pa_nil)))) pss_never pss_nil), ?_⟩
  exact ⟨_, rfl, a, two, ls, rfl, hK, fun H' g1 => ⟨true, rfl, iteNT (q H' g1)⟩⟩
end
abbrev sLKind : Stmt := top 33
theorem scLKind : FnScope ["tape", "labels"] ["tape"] (defScope sLKind) := ⟨rfl, rfl, rfl, by decide +kernel, rfl, by decide +kernel, by decide +kernel⟩
theorem KindAt.but {H H' : Hp} {t k : Addr} {two : Bool} {ls : List Str} (T : TapeOk H t) (g : But t H H') (h : KindAt H k two ls) : KindAt H' k two ls := by
  obtain ⟨lab, a, b, c⟩ := h
  exact ⟨lab, g _ _ (T.ne a) a, g _ _ (T.ne b) b, c⟩
def spLKind : Sp := fun vs H Q _ => ∃ t : Addr, vs = [.ref t] ∧ TapeOk H t ∧ ∀ H' k two ls, But t H H' → TapeOk H' t → KindAt H' k two ls → Q (.ref k) H'
section
variable {P : Program} {w : World} {K : PySem.W.Frag} {mg : Str → Option Value} {base : Heap}
theorem ok_lkind {f g : Addr} {fd gd : FuncData} {k : Nat} (F : Fun K "_law_kind" "_law_kind" sLKind f fd) (G : FnOk P w K mg base CX0 k g gd ["tape", "many"] spTake) (bG : Binds K gd ["tape", "many"] []) (kG : PySem.W.keepIn K (.ref g) = true) (mG : mg "_law_take" = some (.ref g)) : FnOk P w K mg base CX0 (k + 1) f fd ["tape"] spLKind := by
  refine F.ok scLKind (fun vs H Q E h => ?_) (fun cdv A outer s H vs Q E hr h => ?_)
  · obtain ⟨t, rfl, _⟩ := h
    rfl
  obtain ⟨t, rfl, hT, q⟩ := h
  refine ⟨_, pss_cons (ps_set (i := 1) scLKind.nd rfl (Or.inl rfl) (pe_ix ix_tup (pe_tup (pa_cons (pe_tup (pa_cons pe_str pa_nil)) (pa_cons (pe_tup (pa_cons pe_str (pa_cons pe_str pa_nil))) (pa_cons (pe_tup (pa_cons pe_str (pa_cons pe_str pa_nil))) (pa_cons (pe_tup (pa_cons pe_str (pa_cons pe_str (pa_cons pe_str pa_nil)))) pa_nil)))))
      (pe_call G hr (by rfl) mG kG bG .nil pass0 (pa_cons (pv 0) (pa_cons pe_int pa_nil))) (fun _ _ => rfl)))
    (pss_one (ps_ret (pe_tup (pa_cons (pe_op op_add pe_int (pe_op op_fdivN (pe_call G hr (by rfl) mG kG bG .nil pass0 (pa_cons (pv 0) (pa_cons pe_int pa_nil))) pe_int)) (pa_cons (pv 1) pa_nil))))), ?_⟩
  refine ⟨(by show 1 ≤ sizeLine; exact small (by decide)), fun a1 h1 => ⟨(by show 2 ≤ sizeLine; exact small (by decide)), fun a2 h2 => ⟨(by show 2 ≤ sizeLine; exact small (by decide)), fun a3 h3 => ⟨(by show 3 ≤ sizeLine; exact small (by decide)), fun a4 h4 => ⟨(by show 4 ≤ sizeLine; exact small (by decide)), fun a5 h5 => ?_⟩⟩⟩⟩⟩
  have g1 := same_new (o := .tup [.str "a"]) h1
  have g2 := same_new (o := .tup [.str "a", .str "b"]) h2
  have g3 := same_new (o := .tup [.str "a", .str "b"]) h3
  have g4 := same_new (o := .tup [.str "b", .str "d", .str "z"]) h4
  have g5 := same_new (o := .tup [.ref a1, .ref a2, .ref a3, .ref a4]) h5
  have gH := (((g1.trans g2).trans g3).trans g4).trans g5
  have T5 := hT.same gH
  refine ⟨_, rfl, t, 4, rfl, T5, by decide, by decide, fun H6 z b6 T6 z0 z4 => ?_⟩
  have e1 := g5 _ _ (g4 _ _ (g3 _ _ (g2 _ _ (upd_same (H := H) (a := a1) (o := .tup [.str "a"])))))
  have e2 := g5 _ _ (g4 _ _ (g3 _ _ (upd_same (a := a2) (o := .tup [.str "a", .str "b"]))))
  have e3 := g5 _ _ (g4 _ _ (upd_same (a := a3) (o := .tup [.str "a", .str "b"])))
  have e4 := g5 _ _ (upd_same (a := a4) (o := .tup [.str "b", .str "d", .str "z"]))
  have e6 := b6 _ _ (T5.ne upd_same) (upd_same (a := a5) (o := .tup [.ref a1, .ref a2, .ref a3, .ref a4]))
  obtain ⟨lab, ls, hls, hat, el⟩ : ∃ lab ls, ls ∈ LS ∧ atI [V.ref a1, .ref a2, .ref a3, .ref a4] z = some (.ref lab) ∧ H6 lab = some (.tup (ls.map V.str)) := by
    have hz : z = ((0 : Nat) : Int) ∨ z = ((1 : Nat) : Int) ∨ z = ((2 : Nat) : Int) ∨ z = ((3 : Nat) : Int) := by omega
    rcases hz with rfl | rfl | rfl | rfl
    · exact ⟨a1, LA, by simp [LS], atI_nat rfl, b6 _ _ (T5.ne e1) e1⟩
    · exact ⟨a2, LB, by simp [LS], atI_nat rfl, b6 _ _ (T5.ne e2) e2⟩
    · exact ⟨a3, LB, by simp [LS], atI_nat rfl, b6 _ _ (T5.ne e3) e3⟩
    · exact ⟨a4, LC, by simp [LS], atI_nat rfl, b6 _ _ (T5.ne e4) e4⟩
  refine ⟨a5, _, _, _, rfl, rfl, SqT.of e6, hat, ?_⟩
  refine ⟨_, rfl, t, 5, rfl, T6, by decide, by decide, fun H7 y b7 T7 y0 y5 => ?_⟩
  refine ⟨_, _, rfl, rfl, ⟨by decide, by decide⟩, _, _, rfl, rfl, _, rfl, (by show 2 ≤ sizeLine; exact small (by decide)), fun k hk => ?_⟩
  have el7 := b7 _ _ (T6.ne el) el
  have g8 := same_new (H := H7) (p := k) (o := .tup [.int (1 + y.fdiv 3), .ref lab]) hk
  refine q _ k (decide (2 < y)) ls ?_ (T7.same g8) ⟨lab, ?_, g8 _ _ el7, hls⟩
  · exact (((But.of gH).trans b6).trans b7).trans (But.of g8)
  · have hy : y = 0 ∨ y = 1 ∨ y = 2 ∨ y = 3 ∨ y = 4 := by omega
    rcases hy with rfl | rfl | rfl | rfl | rfl <;> exact upd_same
end
end K03

set_option Elab.async false
set_option linter.all false
set_option maxRecDepth 100000
set_option maxHeartbeats 1000000
/-! d.get(k, x), d a written dict whose keys are texts -/
namespace L2
open PySem PySem.Spec PyProof.Rows
/-- what a written dict has at a text -/
def KAt (K : PySem.W.Frag) (w : World) (a : Addr) (x : Str) (o : Option V) : Prop :=
  ∃ es n r, K.lookup a = some ⟨.type "dict", none, .dict es n, #[]⟩ ∧ PySem.W.KeysLit w.params es.toList ∧ (a == sysModules) = false ∧ PySem.W.nsIn K a x = some r ∧ RelO o r
def tKGet2 (K : PySem.W.Frag) (w : World) (td ty tx : TE) : TE := fun σ H Q => td σ H fun x H1 => ∃ a, x = .ref a ∧ (∃ y o, KAt K w a y o) ∧ ty σ H1 fun y H2 => tx σ H2 fun z H3 => ∃ k o, y = .str k ∧ KAt K w a k o ∧ Q (o.getD z) H3
section
variable {X : Cx} {o e f : Expr} {apos cpos : Pos} {td ty tx : TE}
theorem pe_kget2 (ho : PE X o td) (he : PE X e ty) (hf : PE X f tx) (m : M2 X o "get" apos e f cpos) : PE X (.Call (.Attribute o "get" apos) [e, f] [] cpos) (tKGet2 X.K X.w td ty tx) := by
  refine ⟨fun pins s σ H Q I h => ?_⟩
  refine wpAny_Call_method m.base m.few m.line PySem.F.plainAttrs_dict PySem.F.slot_dict_get PySem.F.type_dict_get (thn (ho.run pins s σ H _ I h) fun u s1 ⟨x, H1, I1, rx, a, ex, d, q1⟩ => ?_)
  subst ex
  obtain rfl : u = Value.ref a := rx
  obtain ⟨_, _, es, n, _, hl, hk, _, _, _⟩ := d
  have hm1 := PySem.W.mapOf_K (prog := X.prog) (w := X.w) I1.kIn hl hk
  refine ⟨hm1.typeIs, fun b q => ?_, ?_⟩
  · cases q
    exact ⟨_, I1.kIn _ _ hl, rfl⟩
  rw [m.trees]
  refine Calls.callWith_builtin rfl (Calls.evalArgs_plain (Calls.spliced_cons (thn (he.run pins s1 σ H1 _ I1 q1) fun iv s2 ⟨y, H2, I2, ry, q2⟩ =>
    Calls.spliced_cons (thn (hf.run pins s2 σ H2 _ I2 q2) fun fv s3 ⟨z, H3, I3, rz, k, ov, ey, g, q3⟩ => Calls.spliced_nil ?_))))
  subst ey
  obtain ⟨es2, n2, r, hl2, hk2, low, hn, ro⟩ := g
  obtain ⟨t, rfl⟩ := (show ∃ t, iv = Value.str k t from ry)
  have hm := PySem.W.mapOf_K (prog := X.prog) (w := X.w) I3.kIn hl2 hk2
  refine call_meetsIn PySem.F.slot_dict_get hm.typeIs PySem.F.entry_dict_get (PySem.F.args_dict_get_3 _ _ _) (meets_dict_get_default (strKind X.prog X.w) a (strKind_is X.prog X.w k t) low fv) ⟨_, hm, ?_⟩
  have hf' := PySem.W.find_K hl2 hn
  refine ⟨_, H3, I3.tok _, ?_, q3⟩
  show RelV (ov.getD z) ((PySem.findBy Value.isStrOf es2 k).getD fv)
  rw [hf']
  exact ro.getD rz
end
end L2

set_option Elab.async false
set_option linter.all false
set_option maxRecDepth 100000
set_option maxHeartbeats 2000000
namespace K03
open PySem PySem.Spec PyProof.Rows L2
/-! ### formulas -/
inductive Fm where
  | leaf (h : List Key)
  | un (h : List Key) (f : Fm)
  | bin (h : List Key) (f g : Fm)
deriving Inhabited
def Fm.hd : Fm → List Key
  | .leaf h => h
  | .un h _ => h
  | .bin h _ _ => h
def kids : Fm → List Fm
  | .leaf _ => []
  | .un _ f => [f]
  | .bin _ f g => [f, g]
def parts : Fm → List Fm
  | .leaf h => [.leaf h]
  | .un h f => .un h f :: parts f
  | .bin h f g => .bin h f g :: (parts f ++ parts g)
theorem parts_eq (t : Fm) : parts t = t :: (kids t).flatMap parts := by cases t <;> simp [parts, kids]
def num (t : Fm) : Nat := (parts t).length
theorem num_eq (t : Fm) : num t = ((kids t).map num).sum + 1 := by cases t <;> simp [num, parts, kids]
theorem num_pos (t : Fm) : 0 < num t := by rw [num_eq]; omega
/-- how many formulas stand inside, by the word -/
def WA : List Str := ["true", "label", "child", "below", "same", "top", "in", "inside"]
def WQ : List Str := ["some", "all", "someset", "allset"]
def WB : List Str := ["and", "or"]
def arity (w : Str) : Nat := if w = "not" then 1 else if w ∈ WQ then 1 else if w ∈ WB then 2 else 0
def WALL : List Str := ["true", "label", "child", "below", "same", "top", "in", "inside", "not", "some", "all", "someset", "allset", "and", "or"]
/-- where they begin -/
def opens (w : Str) : Option Nat := if w = "not" then some 1 else if w ∈ WQ then some 2 else if w ∈ WB then some 1 else none
def AtOk (h : List Key) : Prop := (∃ a x : Str, h = [.inr "label", .inr a, .inr x]) ∨ (∃ (k : Nat) (x y : Str), h = [.inr "child", .inl (k : Int), .inr x, .inr y]) ∨ ∃ (w : Str) (ns : List Str), h = .inr w :: ns.map .inr ∧ w ∈ (["true", "below", "same", "top", "in", "inside"] : List Str) ∧ ns.length ≤ 2
def UnOk (h : List Key) : Prop := h = [.inr "not"] ∨ ∃ q x : Str, h = [.inr q, .inr x] ∧ q ∈ WQ
def BinOk (h : List Key) : Prop := ∃ w : Str, h = [.inr w] ∧ w ∈ WB
def Ok : Fm → Prop
  | .leaf h => AtOk h
  | .un h f => UnOk h ∧ Ok f
  | .bin h f g => BinOk h ∧ Ok f ∧ Ok g
theorem wa_ok : ∀ w ∈ WA, arity w = 0 ∧ opens w = none ∧ w ∈ WALL := by decide +kernel
theorem wq_ok : ∀ w ∈ WQ, arity w = 1 ∧ opens w = some 2 ∧ w ∈ WALL := by decide +kernel
theorem wb_ok : ∀ w ∈ WB, arity w = 2 ∧ opens w = some 1 ∧ w ∈ WALL := by decide +kernel
theorem wn_ok : arity "not" = 1 ∧ opens "not" = some 1 ∧ ("not" : Str) ∈ WALL := by decide +kernel
theorem wl_in : ∀ w ∈ (["true", "below", "same", "top", "in", "inside"] : List Str), w ∈ WA := by decide +kernel
/-- the word, and how the head and the insides follow from it -/
theorem head_of : ∀ {t : Fm}, Ok t → ∃ w r, t.hd = .inr w :: r ∧ arity w = (kids t).length ∧ (opens w = none ∧ kids t = [] ∨ opens w = some t.hd.length) ∧ w ∈ WALL ∧ t.hd.length ≤ 4
  | .leaf h, ok => by
    have leaf : ∀ (w : Str) (r : List Key), w ∈ WA → h = .inr w :: r → r.length ≤ 3 → ∃ w r, (Fm.leaf h).hd = .inr w :: r ∧ arity w = (kids (.leaf h)).length ∧ (opens w = none ∧ kids (.leaf h) = [] ∨ opens w = some (Fm.leaf h).hd.length) ∧ w ∈ WALL ∧ (Fm.leaf h).hd.length ≤ 4 := by
      intro w r hw e hl
      have a := wa_ok w hw
      refine ⟨w, r, e, a.1, .inl ⟨a.2.1, rfl⟩, a.2.2, ?_⟩
      show h.length ≤ 4
      rw [e, List.length_cons]
      omega
    rcases ok with ⟨a, x, e⟩ | ⟨k, x, y, e⟩ | ⟨w, ns, e, hw, hn⟩
    · exact leaf _ _ (by decide +kernel) e (by simp)
    · exact leaf _ _ (by decide +kernel) e (by simp)
    · exact leaf _ _ (wl_in w hw) e (by rw [List.length_map]; omega)
  | .un h f, ok => by
    rcases ok.1 with e | ⟨q, x, e, hq⟩
    · refine ⟨_, _, e, wn_ok.1, .inr ?_, wn_ok.2.2, ?_⟩
      · show opens "not" = some h.length
        rw [e]
        exact wn_ok.2.1
      · show h.length ≤ 4
        rw [e]
        show 1 ≤ 4
        decide
    · have a := wq_ok q hq
      refine ⟨_, _, e, a.1, .inr ?_, a.2.2, ?_⟩
      · show opens q = some h.length
        rw [e]
        exact a.2.1
      · show h.length ≤ 4
        rw [e]
        show 2 ≤ 4
        decide
  | .bin h f g, ok => by
    obtain ⟨w, e, hw⟩ := ok.1
    have a := wb_ok w hw
    refine ⟨_, _, e, a.1, .inr ?_, a.2.2, ?_⟩
    · show opens w = some h.length
      rw [e]
      exact a.2.1
    · show h.length ≤ 4
      rw [e]
      show 1 ≤ 4
      decide
theorem ok_kids {t : Fm} (h : Ok t) : ∀ s ∈ kids t, Ok s := by
  cases t with
  | leaf _ => simp [kids]
  | un _ f => simp [kids]; exact h.2
  | bin _ f g => simp [kids]; exact h.2
theorem ok_parts' : ∀ {t : Fm}, Ok t → ∀ s ∈ parts t, Ok s ∧ num s ≤ num t
  | .leaf h, ok, s, hs => by simp only [parts, List.mem_singleton] at hs; subst hs; exact ⟨ok, Nat.le_refl _⟩
  | .un h f, ok, s, hs => by
    simp only [parts, List.mem_cons] at hs
    rcases hs with rfl | hs
    · exact ⟨ok, Nat.le_refl _⟩
    · have := ok_parts' ok.2 s hs
      exact ⟨this.1, by rw [num_eq (.un h f)]; simp [kids]; omega⟩
  | .bin h f g, ok, s, hs => by
    simp only [parts, List.mem_cons, List.mem_append] at hs
    rcases hs with rfl | hs | hs
    · exact ⟨ok, Nat.le_refl _⟩
    · have := ok_parts' ok.2.1 s hs
      exact ⟨this.1, by rw [num_eq (.bin h f g)]; simp [kids]; omega⟩
    · have := ok_parts' ok.2.2 s hs
      exact ⟨this.1, by rw [num_eq (.bin h f g)]; simp [kids]; omega⟩
inductive Rep (H : Hp) : Addr → Fm → Prop where
  | leaf {a : Addr} {h : List Key} (e : H a = some (.tup (h.map kV))) : Rep H a (.leaf h)
  | un {a c : Addr} {h : List Key} {f : Fm} (e : H a = some (.tup (h.map kV ++ [.ref c]))) (r : Rep H c f) : Rep H a (.un h f)
  | bin {a c d : Addr} {h : List Key} {f g : Fm} (e : H a = some (.tup (h.map kV ++ [.ref c, .ref d]))) (r1 : Rep H c f) (r2 : Rep H d g) : Rep H a (.bin h f g)
theorem Rep.keepT {H H' : Hp} (g : KeepT H H') : ∀ {t : Fm} {a : Addr}, Rep H a t → Rep H' a t
  | _, _, .leaf h => .leaf (g _ _ h)
  | _, _, .un h r => .un (g _ _ h) (r.keepT g)
  | _, _, .bin h r1 r2 => .bin (g _ _ h) (r1.keepT g) (r2.keepT g)
theorem Rep.same {H H' : Hp} (g : Same H H') {t : Fm} {a : Addr} (r : Rep H a t) : Rep H' a t := r.keepT (KeepT.of g)
/-- head and insides of the tuple -/
theorem Rep.tup {H : Hp} {a : Addr} {t : Fm} (r : Rep H a t) : ∃ cs, H a = some (.tup (t.hd.map kV ++ cs.map V.ref)) ∧ Al (Rep H) cs (kids t) := by
  cases r with
  | leaf e => exact ⟨[], by rw [e]; simp [Fm.hd], True.intro⟩
  | un e r => exact ⟨[_], e, r, True.intro⟩
  | bin e r1 r2 => exact ⟨[_, _], e, r1, r2, True.intro⟩
theorem kids_le (t : Fm) : (kids t).length ≤ 2 := by cases t <;> simp [kids]
/-- what the module's INSIDE says -/
structure InsT (K : PySem.W.Frag) (w : World) (mg : Str → Option Value) (aI : Addr) : Prop where
  g : mg "INSIDE" = some (.ref aI)
  at' : ∀ x ∈ WALL, KAt K w aI x ((opens x).map fun n => V.int (n : Nat))
abbrev sInner : Stmt := top 6
abbrev sAllP : Stmt := top 8
abbrev sOuter : Stmt := top 7
theorem scOuter : FnScope ["whole"] ["whole"] (defScope sOuter) := ⟨rfl, rfl, rfl, by decide +kernel, rfl, by decide +kernel, by decide +kernel⟩
def spOuter : Sp := fun vs H Q _ => ∃ (a : Addr) (t : Fm), vs = [.ref a] ∧ Rep H a t ∧ Ok t ∧ ∀ H' p, Same H H' → H' p = some (.tup (t.hd.map kV)) → Q (.ref p) H'
theorem scInner : FnScope ["whole"] ["whole"] (defScope sInner) := ⟨rfl, rfl, rfl, by decide +kernel, rfl, by decide +kernel, by decide +kernel⟩
theorem scAllP : FnScope ["whole", "waiting", "found", "now"] ["whole"] (defScope sAllP) := ⟨rfl, rfl, rfl, by decide +kernel, rfl, by decide +kernel, by decide +kernel⟩
def spInner : Sp := fun vs H Q _ => ∃ (a : Addr) (t : Fm), vs = [.ref a] ∧ Rep H a t ∧ Ok t ∧ ∀ H' p cs, Same H H' → H' p = some (.tup (cs.map V.ref)) → Al (Rep H') cs (kids t) → Q (.ref p) H'
def spAllP : Sp := fun vs H Q _ => ∃ (a : Addr) (t : Fm), vs = [.ref a] ∧ Rep H a t ∧ Ok t ∧ num t ≤ 400 ∧ ∀ H' p as, Same H H' → H' p = some (.lst (as.map V.ref)) → Al (Rep H') as (parts t) → Q (.ref p) H'
section
variable {P : Program} {w : World} {K : PySem.W.Frag} {mg : Str → Option Value} {base : Heap}
theorem ok_inner {f aI : Addr} {fd : FuncData} {k : Nat} (F : Fun K "inner" "inner" sInner f fd) (T : InsT K w mg aI) (ml : mg "len" = none) : FnOk P w K mg base CX0 (k + 1) f fd ["whole"] spInner := by
  refine F.ok scInner (fun vs H Q E h => ?_) (fun cdv A outer s H vs Q E hr h => ?_)
  · obtain ⟨a, t, rfl, _⟩ := h
    rfl
  obtain ⟨a, t, rfl, hR, ho, q⟩ := h
  refine ⟨_, pss_one (ps_ret (pe_slice sl_tupA (pv 0) (po_some (pe_kget2 (pe_glob (by rfl) T.g (v := .ref aI) rfl) (pe_ix ix_tup (pv 0) pe_int (fun _ _ => rfl)) (pe_callB call_len_seq (by rfl) ml PySem.boot_len (pa_cons (pv 0) pa_nil)) ⟨by rfl, by rfl, by rfl, by rfl⟩)) po_none)), ?_⟩
  obtain ⟨cs, ea, rk⟩ := hR.tup
  obtain ⟨x, r, eh, har, hop, hm, hl4⟩ := head_of ho
  have hk := T.at' x hm
  have hlen := rk.len
  have hk2 := kids_le t
  refine ⟨_, rfl, aI, rfl, ⟨x, _, hk⟩, _, rfl, a, _, 0, _, rfl, rfl, SqT.of ea, atI_nat (j := 0) (by rw [eh]; rfl), _, rfl, a, _, rfl, .inr (SqT.of ea), x, _, rfl, hk, ?_⟩
  have hpos : 0 < (t.hd.map kV ++ cs.map V.ref).length := by rw [eh]; simp
  have hdrop : (t.hd.map kV ++ cs.map V.ref).drop t.hd.length = cs.map V.ref := by
    have : t.hd.length = (t.hd.map kV).length := by rw [List.length_map]
    rw [this, List.drop_left]
  have hhd : 0 < t.hd.length := by rw [eh]; simp
  rcases hop with ⟨h1, h2⟩ | h1
  · have hcs : cs = [] := List.length_eq_zero_iff.mp (by rw [hlen, h2]; rfl)
    subst hcs
    rw [h1]
    refine ⟨_, rfl, post_sl (k := (t.hd.map kV ++ [].map V.ref).length) ea hpos hpos fun p H' g e => ?_⟩
    refine q H' p [] g ?_ ?_
    · rw [e, List.drop_length]
      rfl
    · rw [h2]
      exact True.intro
  · rw [h1]
    refine ⟨_, rfl, post_sl (k := t.hd.length) ea hhd hpos fun p H' g e => ?_⟩
    rw [hdrop] at e
    exact q H' p cs g e (rk.mono fun a s z => z.same g)
theorem ok_allp {f g aI : Addr} {fd gd : FuncData} {k : Nat} (F : Fun K "all_parts" "all_parts" sAllP f fd) (G : FnOk P w K mg base CX0 k g gd ["whole"] spInner) (bG : Binds K gd ["whole"] []) (kG : PySem.W.keepIn K (.ref g) = true) (mG : mg "inner" = some (.ref g)) (ml : mg "list" = none) (mr : mg "reversed" = none) :
    FnOk P w K mg base CX0 (k + 1) f fd ["whole"] spAllP := by
  refine F.ok scAllP (fun vs H Q E h => ?_) (fun cdv A outer s H vs Q E hr h => ?_)
  · obtain ⟨a, t, rfl, _⟩ := h
    rfl
  obtain ⟨a, t, rfl, hR, ho, hc, q⟩ := h
  refine ⟨_, pss_cons (ps_set (i := 1) scAllP.nd rfl (Or.inl rfl) (pe_lst (pa_cons (pv 0) pa_nil)))
    (pss_cons (ps_set (i := 2) scAllP.nd rfl (Or.inl rfl) (pe_lst pa_nil))
    (pss_cons (ps_while PassesOwn.never (pt_truth (pv 1) (fun _ => rfl))
      (pss_cons (ps_set (i := 3) scAllP.nd rfl (Or.inl rfl) (pe_bm0 PySem.F.plainAttrs_list PySem.F.slot_list_pop PySem.F.type_list_pop mt_pop (pv 1)))
      (pss_cons (ps_expr (pe_bm PySem.F.plainAttrs_list PySem.F.slot_list_append PySem.F.type_list_append mt_append (pv 2) (pa_cons (pv 3) pa_nil)))
      (pss_one (ps_expr (pe_bm PySem.F.plainAttrs_list PySem.F.slot_list_extend PySem.F.type_list_extend mt_extend (pv 1) (pa_cons (pe_listRev rfl (by rfl) ml (by rfl) mr (pe_call G hr (by rfl) mG kG bG .nil pass0 (pa_cons (pv 3) pa_nil))) pa_nil)))))))
    (pss_one (ps_ret (pv 2))))), ?_⟩
  refine ⟨_, rfl, (by show 1 ≤ sizeLine; exact small (by decide)), fun W hW => ⟨(by show 0 ≤ sizeLine; exact Nat.zero_le _), fun D hD => ?_⟩⟩
  have g1 := same_new (o := .lst [.ref a]) hW
  have g2 := same_new (o := .lst []) hD
  have g0 := g1.trans g2
  have hWD : W ≠ D := ne_of_none upd_same hD
  have hDW := hWD.symm
  have hD0 : H D = none := g1.free hD
  refine gn (nxs (while_n (fun m σ H1 => ∃ (y : Option V) (as bs : List Addr) (ws fs : List Fm), σ = [some (.ref a), some (.ref W), some (.ref D), y] ∧ Same H H1 ∧ H1 W = some (.lst (as.map V.ref)) ∧ H1 D = some (.lst (bs.map V.ref)) ∧
      Al (Rep H1) as.reverse ws ∧ Al (Rep H1) bs fs ∧ fs ++ ws.flatMap parts = parts t ∧ (∀ s ∈ ws, Ok s) ∧ m = (ws.flatMap parts).length) (num t)
    ⟨none, [a], [], [t], [], rfl, g0, g2 _ _ upd_same, upd_same, ⟨hR.same g0, True.intro⟩, True.intro, by simp, by simpa using ho, by simp [num]⟩ (fun m σ H1 p => ?_)))
  obtain ⟨y, as, bs, ws, fs, rfl, g, eW, eD, rW, rD, ep, hok, em⟩ := p
  have hbl : fs.length + (ws.flatMap parts).length = num t := by rw [← List.length_append, ep]; rfl
  refine ⟨_, rfl, _, .inl ⟨_, SqL.of eW, rfl⟩, ?_⟩
  rcases List.eq_nil_or_concat as with e | ⟨cs, x, e⟩
  · subst e
    refine iteF' ?_
    have hw : ws = [] := by
      cases ws with
      | nil => rfl
      | cons _ _ => exact rW.elim
    subst hw
    rw [List.flatMap_nil, List.append_nil] at ep
    subst ep
    exact ⟨_, rfl, q _ _ _ g eD rD⟩
  · rw [List.concat_eq_append] at e
    subst e
    obtain ⟨s, r, e2, rx, rr⟩ := rW.revs
    subst e2
    have hne : (!((cs ++ [x]).map V.ref).isEmpty) = true := by simp
    rw [hne]
    refine iteT' ⟨fun σ' H' => ∃ m', m' < m ∧ ∃ (y : Option V) (as bs : List Addr) (ws fs : List Fm), σ' = [some (.ref a), some (.ref W), some (.ref D), y] ∧ Same H H' ∧ H' W = some (.lst (as.map V.ref)) ∧ H' D = some (.lst (bs.map V.ref)) ∧
      Al (Rep H') as.reverse ws ∧ Al (Rep H') bs fs ∧ fs ++ ws.flatMap parts = parts t ∧ (∀ s ∈ ws, Ok s) ∧ m' = (ws.flatMap parts).length, fun σ' H' h => h, ?_⟩
    have hlast : ((cs ++ [x]).map V.ref)[((cs ++ [x]).map V.ref).length - 1]? = some (V.ref x) := by simp
    refine ⟨_, rfl, .inl ⟨rfl, _, SqL.of eW⟩, W, _, _, rfl, rfl, eW, hlast, ?_⟩
    have hdl : ((cs ++ [x]).map V.ref).dropLast = cs.map V.ref := by simp
    rw [hdl]
    have k2 : KeepT H1 (upd H1 W (.lst (cs.map V.ref))) := KeepT.put eW _
    have eD2 : (upd H1 W (.lst (cs.map V.ref))) D = some (.lst (bs.map V.ref)) := by rw [upd_ne hDW]; exact eD
    have eW2 : (upd H1 W (.lst (cs.map V.ref))) W = some (.lst (cs.map V.ref)) := upd_same
    have gS : Same H (upd H1 W (.lst (cs.map V.ref))) := same_fresh hW g
    generalize upd H1 W (.lst (cs.map V.ref)) = H2 at *
    have hlb : bs.length < 500 := by
      have := rD.len
      omega
    refine ⟨_, rfl, .inl ⟨rfl, _, SqL.of eD2⟩, _, rfl, D, _, _, rfl, rfl, eD2, small' (by rw [List.length_map]; omega), ?_⟩
    have k3 : KeepT H2 (upd H2 D (.lst (bs.map V.ref ++ [V.ref x]))) := KeepT.put eD2 _
    have eW3 : (upd H2 D (.lst (bs.map V.ref ++ [V.ref x]))) W = some (.lst (cs.map V.ref)) := by rw [upd_ne hWD]; exact eW2
    have eD3 : (upd H2 D (.lst (bs.map V.ref ++ [V.ref x]))) D = some (.lst (bs.map V.ref ++ [V.ref x])) := upd_same
    have gS3 : Same H (upd H2 D (.lst (bs.map V.ref ++ [V.ref x]))) := same_fresh hD0 gS
    generalize upd H2 D (.lst (bs.map V.ref ++ [V.ref x])) = H3 at *
    have k13 := k2.trans k3
    refine ⟨_, rfl, .inl ⟨rfl, _, SqL.of eW3⟩, _, rfl, x, s, rfl, rx.keepT k13, hok s (by simp), fun H4 p ds g4 e4 al4 => ?_⟩
    refine ⟨p, _, rfl, SqT.of e4, fun r2 hr2 => ?_⟩
    have gr := same_new (o := .lst (ds.map V.ref).reverse) hr2
    have dl := al4.len
    have kl2 := kids_le s
    have sle : cs.length ≤ 500 := by
      have h1 := rr.len
      rw [List.length_reverse] at h1
      have h2 : r.length ≤ (r.flatMap parts).length := by
        clear ep rW rr h1 hok em hbl
        induction r with
        | nil => simp
        | cons u v ih =>
          rw [List.flatMap_cons, List.length_append, parts_eq u, List.length_cons, List.length_cons]
          omega
      rw [List.flatMap_cons, List.length_append] at hbl
      omega
    refine ⟨W, r2, _, _, rfl, rfl, gr _ _ (g4 _ _ eW3), upd_same, (by rw [List.length_map, List.length_reverse, List.length_map]; exact small (by omega)), ?_⟩
    have k5 : KeepT (upd H4 r2 (.lst (ds.map V.ref).reverse)) (upd (upd H4 r2 (.lst (ds.map V.ref).reverse)) W (.lst (cs.map V.ref ++ (ds.map V.ref).reverse))) := KeepT.put (gr _ _ (g4 _ _ eW3)) _
    have k45 := (KeepT.of gr).trans k5
    have k15 := k13.trans ((KeepT.of g4).trans k45)
    refine ⟨((kids s ++ r).flatMap parts).length, ?_, some (.ref x), cs ++ ds.reverse, bs ++ [x], kids s ++ r, fs ++ [s], rfl, same_fresh hW (gS3.trans (g4.trans gr)), ?_, ?_, ?_, ?_, ?_, ?_, rfl⟩
    · rw [em, List.flatMap_cons, List.flatMap_append, List.length_append, List.length_append, parts_eq s, List.length_cons]
      omega
    · rw [upd_same, List.map_append, List.map_reverse]
    · rw [upd_ne hDW, gr _ _ (g4 _ _ eD3), List.map_append]
      rfl
    · rw [List.reverse_append, List.reverse_reverse]
      exact (al4.mono fun a s z => z.keepT k45).append (rr.mono fun a s z => z.keepT k15)
    · exact (rD.mono fun a s z => z.keepT k15).snoc (rx.keepT k15)
    · rw [← ep, List.flatMap_append, List.flatMap_cons, parts_eq s]
      simp
    · intro u hu
      rcases List.mem_append.mp hu with hu | hu
      · exact ok_kids (hok s (by simp)) u hu
      · exact hok u (by simp [hu])
end
end K03

set_option Elab.async false
set_option linter.all false
set_option maxRecDepth 100000
set_option maxHeartbeats 2000000
namespace K03
open PySem PySem.Spec PyProof.Rows L2
/-! ### built -/
theorem fm_ext {s u : Fm} (h : s.hd = u.hd) (k : kids s = kids u) : s = u := by
  cases s <;> cases u <;> simp_all [Fm.hd, kids]
theorem key_same {s u : Fm} (hs : Ok s) (hu : Ok u) {js is : List Nat} {ts : List Fm} (e : s.hd ++ is.map (fun (j : Nat) => (Sum.inl (j : Int) : Key)) = u.hd ++ js.map (fun (j : Nat) => (Sum.inl (j : Int) : Key))) (h1 : is.map (fun m => ts[m]?) = (kids s).map some) (h2 : js.map (fun m => ts[m]?) = (kids u).map some) : s = u := by
  obtain ⟨w, r, e1, a1, _⟩ := head_of hs
  obtain ⟨w', r', e2, a2, _⟩ := head_of hu
  have hw : w = w' := by
    rw [e1, e2] at e
    simp only [List.cons_append, List.cons.injEq, Sum.inr.injEq] at e
    exact e.1
  subst hw
  have l1 := congrArg List.length h1
  have l2 := congrArg List.length h2
  rw [List.length_map, List.length_map] at l1 l2
  have lk : (kids s).length = (kids u).length := a1.symm.trans a2
  obtain ⟨x1, x2⟩ := List.append_inj' e (by rw [List.length_map, List.length_map]; omega)
  have x3 : is = js := by
    refine (List.map_inj_right fun x y h => ?_).mp x2
    simp only [Sum.inl.injEq] at h
    omega
  subst x3
  refine fm_ext x1 ?_
  have := h1.symm.trans h2
  exact (List.map_inj_right fun x y h => Option.some.inj h).mp this
theorem flat_inj : ∀ {fs gs : List Fm}, fs.flatMap parts = gs.flatMap parts → fs = gs
  | [], [], _ => rfl
  | [], g :: gs, h => by rw [List.flatMap_nil, List.flatMap_cons, parts_eq g] at h; cases h
  | f :: fs, [], h => by rw [List.flatMap_nil, List.flatMap_cons, parts_eq f] at h; cases h
  | f :: fs, g :: gs, h => by
    have h' := h
    rw [List.flatMap_cons, List.flatMap_cons, parts_eq f, parts_eq g] at h'
    simp only [List.cons_append, List.cons.injEq] at h'
    obtain ⟨rfl, _⟩ := h'
    rw [List.flatMap_cons, List.flatMap_cons] at h
    rw [flat_inj (List.append_cancel_left h)]
theorem flat_drop {t : Fm} : ∀ k, ∃ fs : List Fm, fs.flatMap parts = (parts t).drop k
  | 0 => ⟨[t], by simp⟩
  | k + 1 => by
    obtain ⟨fs, e⟩ := flat_drop (t := t) k
    rw [← List.drop_drop, ← e]
    cases fs with
    | nil => exact ⟨[], rfl⟩
    | cons s r => exact ⟨kids s ++ r, by rw [List.flatMap_append, List.flatMap_cons, parts_eq s]; rfl⟩
def Vr (AR : V → Fm → Prop) : List V → List Fm → Prop
  | [], [] => True
  | v :: vs, s :: ss => AR v s ∧ Vr AR vs ss
  | _, _ => False
theorem Vr.len {AR : V → Fm → Prop} : ∀ {vs : List V} {ss : List Fm}, Vr AR vs ss → vs.length = ss.length
  | [], [], _ => rfl
  | _ :: _, _ :: _, ⟨_, t⟩ => congrArg (· + 1) t.len
theorem Vr.mono {AR BR : V → Fm → Prop} : ∀ {vs : List V} {ss : List Fm}, (∀ v s, v ∈ vs → AR v s → BR v s) → Vr AR vs ss → Vr BR vs ss
  | [], [], _, _ => True.intro
  | v :: vs, s :: ss, g, ⟨h, t⟩ => ⟨g v s List.mem_cons_self h, t.mono fun v s m => g v s (List.mem_cons_of_mem _ m)⟩
theorem Vr.snoc {AR : V → Fm → Prop} {v : V} {s : Fm} (h : AR v s) : ∀ {vs : List V} {ss : List Fm}, Vr AR vs ss → Vr AR (vs ++ [v]) (ss ++ [s])
  | [], [], _ => ⟨h, True.intro⟩
  | _ :: _, _ :: _, ⟨a, t⟩ => ⟨a, Vr.snoc h t⟩
theorem Vr.get {AR : V → Fm → Prop} : ∀ {vs : List V} {ss : List Fm} {i : Nat} {s : Fm}, Vr AR vs ss → ss[i]? = some s → ∃ v, vs[i]? = some v ∧ AR v s
  | [], [], i, s, _, e => by simp at e
  | v :: vs, u :: ss, 0, s, ⟨h, _⟩, e => by
    simp at e
    exact ⟨v, rfl, e ▸ h⟩
  | v :: vs, u :: ss, i + 1, s, ⟨_, t⟩, e => t.get (i := i) (by simpa using e)
theorem Vr.snoc1 {AR : V → Fm → Prop} {vs : List V} {ss : List Fm} {v : V} {s : Fm} (t : Vr AR vs ss) (h : AR v s) : Vr AR (vs ++ [v]) (ss ++ [s]) := t.snoc h
/-- all but lists and dicts stay -/
def KeepO (H H' : Hp) : Prop := ∀ b o, (∀ xs, o ≠ HO.lst xs) → (∀ kvs, o ≠ HO.dT kvs) → H b = some o → H' b = some o
theorem KeepO.of {H H' : Hp} (g : Same H H') : KeepO H H' := fun b o _ _ e => g b o e
def B3 (N R W : Addr) (H H' : Hp) : Prop := ∀ b o, b ≠ N → b ≠ R → b ≠ W → H b = some o → H' b = some o
section
variable {N R W : Addr} {H H1 H2 H3 : Hp}
theorem B3.refl : B3 N R W H H := fun _ _ _ _ _ e => e
theorem B3.trans (a : B3 N R W H1 H2) (b : B3 N R W H2 H3) : B3 N R W H1 H3 := fun c o x y z e => b c o x y z (a c o x y z e)
theorem B3.of (g : Same H H1) : B3 N R W H H1 := fun b o _ _ _ e => g b o e
theorem B3.updN {o : HO} : B3 N R W H (upd H N o) := fun b u x _ _ e => by rw [upd_ne x]; exact e
theorem B3.updR {o : HO} : B3 N R W H (upd H R o) := fun b u _ x _ e => by rw [upd_ne x]; exact e
theorem B3.updW {o : HO} : B3 N R W H (upd H W o) := fun b u _ _ x e => by rw [upd_ne x]; exact e
theorem B3.keepO {kvs : List (List Key × V)} {xs ys : List V} (g : B3 N R W H H1) (eN : H N = some (.dT kvs)) (eR : H R = some (.lst xs)) (eW : H W = some (.lst ys)) : KeepO H H1 := fun b o h1 h2 e =>
  g b o (fun z => by rw [z, eN] at e; exact h2 _ (Option.some.inj e).symm) (fun z => by rw [z, eR] at e; exact h1 _ (Option.some.inj e).symm) (fun z => by rw [z, eW] at e; exact h1 _ (Option.some.inj e).symm) e
theorem KeepO.keepT (g : KeepO H H1) : KeepT H H1 := fun b xs e => g b _ (fun _ z => by cases z) (fun _ z => by cases z) e
theorem KeepO.trans (a : KeepO H H1) (b : KeepO H1 H2) : KeepO H H2 := fun c o x y e => b c o x y (a c o x y e)
theorem B3.same0 (hN : H N = none) (hR : H R = none) (hW : H W = none) (g : Same H H1) (b : B3 N R W H1 H2) : Same H H2 := fun c o e => b c o (ne_of_none e hN) (ne_of_none e hR) (ne_of_none e hW) (g c o e)
end
/-- what a function of a part and of what is inside tells -/
structure Abv where
  AR : Hp → V → Fm → Prop
  G : Fm → Prop
  C : Addr
  Cn : Fm → Prop
  st : ∀ {H H' : Hp} {v : V} {t : Fm}, (∀ b o, v = .ref b → H b = some o → H' b = some o) → AR H v t → AR H' v t
def spAb (M : Abv) : Sp := fun vs H Q E => ∃ (c : Addr) (s : Fm) (p : Addr) (xs : List V), vs = [.ref c, .ref p] ∧ Rep H c s ∧ Ok s ∧ num s ≤ 400 ∧ M.Cn s ∧ H p = some (.lst xs) ∧ Vr (M.AR H) xs (kids s) ∧ (∀ u ∈ kids s, M.G u) ∧
  (M.G s → ∀ v H', Same H H' → M.AR H' v s → (∀ b, v = .ref b → H b = none) → Q v H') ∧ (¬ M.G s → ∀ H', Same H H' → E (.ref M.C) none H')
def spBuilt (M : Abv) (Stay : Addr → Hp → Prop) : Sp := fun vs H Q E => ∃ (a : Addr) (t : Fm) (g : Addr), vs = [.ref a, .ref g] ∧ Rep H a t ∧ Ok t ∧ num t ≤ 400 ∧ (∀ s ∈ parts t, M.Cn s) ∧ Stay g H ∧
  ((∀ s ∈ parts t, M.G s) → ∀ v H', Same H H' → M.AR H' v t → (∀ b, v = .ref b → H b = none) → Q v H') ∧ ((¬ ∀ s ∈ parts t, M.G s) → ∀ H', Same H H' → E (.ref M.C) none H')
def tAb (M : Abv) (Stay : Addr → Hp → Prop) (E : XK) (t : TA) : TE := fun σ H Q => ∃ g, σ[1]? = some (some (.ref g)) ∧ Stay g H ∧ t σ H fun vs H1 => Stay g H1 ∧ spAb M vs H1 Q E
def CallR (X : Cx) (M : Abv) (Stay : Addr → Hp → Prop) (E : XK) : Prop := ∀ (e : Expr) (es : List Expr) (p pos : Pos) (t : TA), PA X (e :: es) t → starEach (e :: es) X.env = (false, eval e X.env) :: starEach es X.env → (backTo pos (starEach es X.env)).any (·.1) = false →
  PE X (.Call (.Name "above" p) (e :: es) [] pos) (tAb M Stay E t)
structure BInv (M : Abv) (N R W : Addr) (n : Nat) (L : List Fm) (H H1 : Hp) (i : Nat) (fs : List Fm) (ids : List Nat) (vals : List V) (ts : List Fm) (kvs : List (List Key × V)) (H2 : Hp) : Prop where
  ch : fs.flatMap parts = L.drop (n - i)
  ix : ids.map (fun m => ts[m]?) = fs.map some
  eW : H2 W = some (.lst (ids.reverse.map fun (m : Nat) => V.int m))
  eR : H2 R = some (.lst vals)
  vr : Vr (M.AR H2) vals ts
  far : ∀ b, V.ref b ∈ vals → H b = none ∧ b ≠ N ∧ b ≠ R ∧ b ≠ W
  eN : H2 N = some (.dT kvs)
  kl : kvs.length ≤ ts.length
  dict : ∀ k v, valV kvs k = some v → ∃ (m : Nat) (s : Fm) (js : List Nat), v = .int m ∧ ts[m]? = some s ∧ Ok s ∧ k = s.hd ++ js.map (fun (j : Nat) => (Sum.inl (j : Int) : Key)) ∧ js.map (fun m => ts[m]?) = (kids s).map some
  b3 : B3 N R W H1 H2
  tl : ts.length ≤ i
  good : ∀ s ∈ ts, M.G s
  all : ∀ s ∈ L.drop (n - i), s ∈ ts
/-- t[:k] -/
theorem pre_sl2 {K : PySem.W.Frag} {H : Hp} {c : Addr} {xs : List V} {k : Nat} {Q : VK} (h : H c = some (.tup xs)) (hk : k ≤ xs.length) (q : ∀ p H', Same H H' → H' p = some (.tup (xs.take k)) → Q (.ref p) H') : rSlA K (.ref c) none (some (k : Int)) H Q := by
  rcases Nat.lt_or_ge k xs.length with hl | hl
  · exact pre_sl h hl q
  · have e : k = xs.length := by omega
    have e1 : HT.sIx xs.length xs.length (some (k : Int)) = xs.length := by rw [HT.sIx_nat]; omega
    refine ⟨c, xs, rfl, SqT.of h, fun _ => q c H (Same.refl H) (by rw [e, List.take_length]; exact h), fun z => ?_⟩
    exact absurd ⟨HT.sIx_none _ _, e1⟩ z
section
variable {P : Program} {w : World} {K : PySem.W.Frag} {mg : Str → Option Value} {base : Heap}
theorem ok_outer {f aI : Addr} {fd : FuncData} {k : Nat} (F : Fun K "outer" "outer" sOuter f fd) (T : InsT K w mg aI) (ml : mg "len" = none) : FnOk P w K mg base CX0 (k + 1) f fd ["whole"] spOuter := by
  refine F.ok scOuter (fun vs H Q E h => ?_) (fun cdv A outer s H vs Q E hr h => ?_)
  · obtain ⟨a, t, rfl, _⟩ := h
    rfl
  obtain ⟨a, t, rfl, hR, ho, q⟩ := h
  refine ⟨_, pss_one (ps_ret (pe_slice sl_tupA (pv 0) po_none (po_some (pe_kget2 (pe_glob (by rfl) T.g (v := .ref aI) rfl) (pe_ix ix_tup (pv 0) pe_int (fun _ _ => rfl)) (pe_callB call_len_seq (by rfl) ml PySem.boot_len (pa_cons (pv 0) pa_nil)) ⟨by rfl, by rfl, by rfl, by rfl⟩)))), ?_⟩
  obtain ⟨cs, ea, rk⟩ := hR.tup
  obtain ⟨x, r, eh, har, hop, hm, hl4⟩ := head_of ho
  have hk := T.at' x hm
  have hlen := rk.len
  refine ⟨_, rfl, aI, rfl, ⟨x, _, hk⟩, _, rfl, a, _, 0, _, rfl, rfl, SqT.of ea, atI_nat (j := 0) (by rw [eh]; rfl), _, rfl, a, _, rfl, .inr (SqT.of ea), x, _, rfl, hk, ?_⟩
  have htake : (t.hd.map kV ++ cs.map V.ref).take t.hd.length = t.hd.map kV := by
    have : t.hd.length = (t.hd.map kV).length := by rw [List.length_map]
    rw [this, List.take_left]
  rcases hop with ⟨h1, h2⟩ | h1
  · have hcs : cs = [] := List.length_eq_zero_iff.mp (by rw [hlen, h2]; rfl)
    subst hcs
    rw [h1]
    refine ⟨_, rfl, pre_sl2 (k := (t.hd.map kV ++ [].map V.ref).length) ea (by omega) fun p H' g e => ?_⟩
    refine q H' p g ?_
    rw [e, List.take_length]
    simp
  · rw [h1]
    refine ⟨_, rfl, pre_sl2 (k := t.hd.length) ea (by rw [List.length_append, List.length_map]; omega) fun p H' g e => ?_⟩
    rw [htake] at e
    exact q H' p g e
end
theorem getApp {α : Type} {ts : List α} {x : α} {m : Nat} {s : α} (h : ts[m]? = some s) : (ts ++ [x])[m]? = some s := by
  rw [List.getElem?_append_left (List.getElem?_eq_some_iff.mp h).1]
  exact h
theorem ixApp {ts : List Fm} {x : Fm} : ∀ {js : List Nat} {ss : List Fm}, js.map (fun m => ts[m]?) = ss.map some → js.map (fun m => (ts ++ [x])[m]?) = ss.map some
  | [], [], _ => rfl
  | [], _ :: _, h => by simp at h
  | _ :: _, [], h => by simp at h
  | j :: js, s :: ss, h => by
    simp only [List.map_cons, List.cons.injEq] at h ⊢
    exact ⟨getApp h.1, ixApp h.2⟩
abbrev sBuilt : Stmt := top 9
def NB : List Str := ["whole", "above", "numbers", "results", "waiting", "now", "inside", "key", "_", "number"]
theorem scBuilt : FnScope NB ["whole", "above"] (defScope sBuilt) := ⟨rfl, rfl, rfl, by decide +kernel, rfl, by decide +kernel, by decide +kernel⟩
end K03

set_option Elab.async false
set_option linter.all false
set_option maxRecDepth 100000
set_option maxHeartbeats 4000000
namespace K03
open PySem PySem.Spec PyProof.Rows L2
theorem dput_eq {H H' : Hp} {a : Addr} {y v v' : V} (e : v = v') (h : DPut H a y v' H') : DPut H a y v H' := by subst e; exact h
theorem last_nat (x : Nat) (l : List Nat) : (((x :: l).reverse).map (fun (m : Nat) => V.int m))[(((x :: l).reverse).map (fun (m : Nat) => V.int m)).length - 1]? = some (V.int (x : Nat)) := by simp
theorem drop_nat (x : Nat) (l : List Nat) : (((x :: l).reverse).map (fun (m : Nat) => V.int m)).dropLast = (l.reverse).map (fun (m : Nat) => V.int m) := by simp
/-- over a list from its end -/
theorem for_rev {K : PySem.W.Frag} {a : Addr} {xs : List V} {g : TG} {tb : TS} {D : Ends} {σ : L2.St} {H : Hp} (Pv : Nat → L2.St → Hp → Prop) (h0 : Pv 0 σ H) (hl : ∀ i σ H, i ≤ xs.length → Pv i σ H → SqL K H a xs)
    (hs : ∀ i x σ H, i < xs.length → xs[xs.length - 1 - i]? = some x → Pv i σ H → g x σ H fun σ2 H2 => tb { D with nx := Pv (i + 1), ct := Pv (i + 1), bk := D.nx } σ2 H2) (hd : ∀ σ H, Pv xs.length σ H → D.nx σ H) :
    ∃ W : Nat → Nat → L2.St → Hp → Prop, (∃ m, W 0 m σ H) ∧ ∀ i m σ H, W i m σ H →
      ((Itv K a xs.length).stop i H ∧ D.nx σ H) ∨ ((Itv K a xs.length).go i H ∧ ∃ N : L2.St → Hp → Prop, (∀ σ' H', N σ' H' → ∃ m', m' < m ∧ W (i + 1) m' σ' H') ∧ ∀ x H', (Itv K a xs.length).yld i H x H' → g x σ H' fun σ2 H2 => tb { D with nx := N, ct := N, bk := D.nx } σ2 H2) := by
  refine ⟨fun i m σ H => m = xs.length - i ∧ i ≤ xs.length ∧ Pv i σ H, ⟨xs.length, by simp, Nat.zero_le _, h0⟩, ?_⟩
  rintro i m σ H ⟨rfl, hi, p⟩
  have q := hl i σ H hi p
  by_cases hlt : i < xs.length
  · refine .inr ⟨⟨hlt, xs, xs[xs.length - 1 - i], q, by simp⟩, Pv (i + 1), fun σ' H' p' => ⟨xs.length - (i + 1), by omega, rfl, hlt, p'⟩, fun x H' y => ?_⟩
    obtain ⟨e, y⟩ := y
    subst e
    exact hs i x σ _ hlt (y xs q) p
  · have e : i = xs.length := by omega
    subst e
    exact .inl ⟨Nat.le_refl _, hd σ H p⟩
section
variable {P : Program} {w : World} {K : PySem.W.Frag} {mg : Str → Option Value} {base : Heap}
theorem ok_built {M : Abv} {Stay : Addr → Hp → Prop} (hSt : ∀ {g : Addr} {H H' : Hp}, KeepO H H' → Stay g H → Stay g H') {f ga gi go : Addr} {fd gad gid god : FuncData} {k : Nat} (F : Fun K "built" "built" sBuilt f fd)
    (HC : ∀ (cdv : Value) (A : Around) (outer : List Env) (s : Shared) (H : Hp) (E : XK), Room k (A.deeper (envOfC "built" (defScope sBuilt) s.heap.objs.size f cdv)) → CallR (cxOf (L2.CX P w) P w K mg base NB "built" (defScope sBuilt) f cdv A outer s H E) M Stay E)
    (GA : FnOk P w K mg base CX0 k ga gad ["whole"] spAllP) (bA : Binds K gad ["whole"] []) (kA : PySem.W.keepIn K (.ref ga) = true) (mA : mg "all_parts" = some (.ref ga))
    (GI : FnOk P w K mg base CX0 k gi gid ["whole"] spInner) (bI : Binds K gid ["whole"] []) (kI : PySem.W.keepIn K (.ref gi) = true) (mI : mg "inner" = some (.ref gi)) (GO : FnOk P w K mg base CX0 k go god ["whole"] spOuter) (bO : Binds K god ["whole"] []) (kO : PySem.W.keepIn K (.ref go) = true) (mO : mg "outer" = some (.ref go)) (mr : mg "reversed" = none) (ml : mg "len" = none) :
    FnOk P w K mg base (L2.CX P w) (k + 1) f fd ["whole", "above"] (spBuilt M Stay) := by
  refine F.okX scBuilt (fun vs H Q E h => ?_) (fun cdv A outer s H vs Q E hr h => ?_)
  · obtain ⟨a, t, g, rfl, _⟩ := h
    rfl
  obtain ⟨a, t, g, rfl, hR, ho, hc, hcn, hst, q, qE⟩ := h
  have hu := hu_of hr
  have hcall := HC cdv A outer s H E hr
  refine ⟨_, pss_cons (ps_set (i := 2) scBuilt.nd rfl (Or.inl rfl) pe_dnewT)
    (pss_cons (ps_set (i := 3) scBuilt.nd rfl (Or.inr rfl) (pe_lst pa_nil))
    (pss_cons (ps_set (i := 4) scBuilt.nd rfl (Or.inr rfl) (pe_lst pa_nil))
    (pss_cons (ps_for (passes_of rfl) rfl (pi_reversed (by rfl) mr (pa_cons (pe_call GA hr (by rfl) mA kA bA .nil pass0 (pa_cons (pv 0) pa_nil)) pa_nil)) (pg_name (i := 5) scBuilt.nd rfl (Or.inl rfl))
      (pss_cons (ps_setLc (i := 6) (own := [("_", 8)]) (g := gName 8) (tt := tYes) (te := tBM0 K "list" rPop (tVar 4)) rfl scBuilt.nd rfl rfl (sw_true rfl rfl rfl (by decide +kernel)) (pi_tup (pe_call GI hr (by rfl) mI kI bI .nil pass0 (pa_cons (pv 5) pa_nil)))
          (blkOk_by (own := [("_", 8)]) (N := NB) (sc := defScope sBuilt) (by decide +kernel)) (fun _ _ _ _ _ => pg_name (i := 8) scBuilt.nd rfl (Or.inl rfl)) (fun _ _ _ _ _ => pts_nil)
          (fun _ _ _ _ _ => pe_bm0 PySem.F.plainAttrs_list PySem.F.slot_list_pop PySem.F.type_list_pop mt_pop (pv 4)))
      (pss_cons (ps_set (i := 7) scBuilt.nd rfl (Or.inl rfl) (pe_tup (StX.pa_star (pe_call GO hr (by rfl) mO kO bO .nil pass0 (pa_cons (pv 5) pa_nil)) (StX.pa_star (pv 6) pa_nil))))
      (pss_cons (ps_if (pt_cmp (pc_dnotin hu (pv 7) (pv 2)))
          (pss_cons (ps_expr (pe_bm PySem.F.plainAttrs_list PySem.F.slot_list_append PySem.F.type_list_append mt_append (pv 3) (pa_cons (hcall _ _ _ _ _ (pa_cons (pv 5) (pa_cons
              (pe_lc (own := [("number", 9)]) (g := gName 9) (tt := tYes) (te := tOp (rIxL K) (tVar 3) (tVar 9)) rfl scBuilt.nd (pi_list (pv 6)) (blkOk_by (own := [("number", 9)]) (N := NB) (sc := defScope sBuilt) (by decide +kernel)) (fun _ _ _ _ _ => pg_name (i := 9) scBuilt.nd rfl (Or.inl rfl)) (fun _ _ _ _ _ => pts_nil)
                (fun _ _ _ _ _ => pe_ix ix_list (pv 3) (pv 9) (fun _ _ => rfl))) pa_nil)) rfl rfl) pa_nil)))
          (pss_one (ps_dput hu (pv 2) (pv 7) (pe_op op_sub (pe_callB call_len_seq (by rfl) ml PySem.boot_len (pa_cons (pv 3) pa_nil)) pe_int) rfl)))
          pss_nil)
      (pss_one (ps_expr (pe_bm PySem.F.plainAttrs_list PySem.F.slot_list_append PySem.F.type_list_append mt_append (pv 4) (pa_cons (pe_dget hu (pv 2) (pv 7) (fun _ _ => rfl)) pa_nil))))))))
    (pss_one (ps_ret (pe_ix ix_list (pv 3) (pe_ix ix_list (pv 4) pe_int (fun _ _ => rfl)) (fun _ _ => rfl))))))), ?_⟩
  refine fun N hN => ⟨Nat.zero_le _, fun R hR' => ⟨Nat.zero_le _, fun W hW => ?_⟩⟩
  have g1 : Same H (upd H N (.dT [])) := same_new hN
  have g2 := same_new (o := .lst []) hR'
  have g3 := same_new (o := .lst []) hW
  have gA := (g1.trans g2).trans g3
  have eN0 := (g2.trans g3) _ _ (upd_same (H := H) (a := N) (o := .dT []))
  have eR0 := g3 _ _ (upd_same (H := upd H N (.dT [])) (a := R) (o := .lst []))
  have eW0 := upd_same (H := upd (upd H N (.dT [])) R (.lst [])) (a := W) (o := .lst [])
  have hR0 : H R = none := g1.free hR'
  have hW0 : H W = none := (g1.trans g2).free hW
  have hNR : N ≠ R := ne_of_none upd_same hR'
  have hNW : N ≠ W := ne_of_none (g2 _ _ upd_same) hW
  have hRW : R ≠ W := ne_of_none upd_same hW
  generalize upd (upd (upd H N (.dT [])) R (.lst [])) W (.lst []) = Ha at *
  clear g1 g2 g3 hR' hW
  refine ⟨_, rfl, a, t, rfl, hR.same gA, ho, hc, fun H1 ql as gB eq rq => ?_⟩
  have eN1 := gB _ _ eN0
  have eR1 := gB _ _ eR0
  have eW1 := gB _ _ eW0
  have gH : Same H H1 := gA.trans gB
  have hn : (as.map V.ref).length = (parts t).length := by rw [List.length_map, rq.len]
  have npos : 0 < (parts t).length := num_pos t
  have hc' : (parts t).length ≤ 400 := hc
  have qne : as.map V.ref ≠ [] := fun z => by rw [z] at hn; simp at hn; omega
  have hqN : ql ≠ N := fun z => by rw [z, eN1] at eq; cases eq
  have hqR : ql ≠ R := fun z => by rw [z, eR1] at eq; exact qne (by injection eq with h; injection h with h; exact h.symm)
  have hqW : ql ≠ W := fun z => by rw [z, eW1] at eq; exact qne (by injection eq with h; injection h with h; exact h.symm)
  refine ⟨ql, as.map V.ref, rfl, SqL.of eq, ?_⟩
  refine for_rev (xs := as.map V.ref) (fun i σ H2 => ∃ (y5 y6 y7 y8 y9 : Option V) (fs : List Fm) (ids : List Nat) (vals : List V) (ts : List Fm) (kvs : List (List Key × V)), σ = [some (.ref a), some (.ref g), some (.ref N), some (.ref R), some (.ref W), y5, y6, y7, y8, y9] ∧ BInv M N R W (parts t).length (parts t) H H1 i fs ids vals ts kvs H2)
    ⟨none, none, none, none, none, [], [], [], [], [], rfl, ?_, rfl, eW1, eR1, True.intro, fun b hb => (by simp at hb), eN1, Nat.le_refl _, fun k v hv => (by cases hv), B3.refl, Nat.le_refl _, fun s hs => (by simp at hs), ?_⟩ (fun i σ H2 hi p => ?_) (fun i x σ H2 hi hx p => ?_) fun σ H2 p => ?_
  · rw [Nat.sub_zero, List.drop_length]
    rfl
  · rw [Nat.sub_zero, List.drop_length]
    intro s hs
    simp at hs
  · obtain ⟨y5, y6, y7, y8, y9, fs, ids, vals, ts, kvs, rfl, B⟩ := p
    exact SqL.of (B.b3 _ _ hqN hqR hqW eq)
  · obtain ⟨y5, y6, y7, y8, y9, fs, ids, vals, ts, kvs, rfl, B⟩ := p
    rw [hn] at hi hx
    rw [List.getElem?_map] at hx
    obtain ⟨c, hc1, rfl⟩ : ∃ c, as[(parts t).length - 1 - i]? = some c ∧ x = .ref c := by
      cases z : as[(parts t).length - 1 - i]? with
      | none => rw [z] at hx; cases hx
      | some c => rw [z] at hx; exact ⟨c, rfl, (Option.some.inj hx).symm⟩
    obtain ⟨s', hs', rc⟩ := rq.get hc1
    have e1 : (parts t).length - 1 - i = (parts t).length - (i + 1) := by omega
    rw [e1] at hs'
    have e2 : (parts t).drop ((parts t).length - (i + 1)) = s' :: (parts t).drop ((parts t).length - i) := by
      rw [drop_at hs', show (parts t).length - (i + 1) + 1 = (parts t).length - i by omega]
    obtain ⟨fs', ch'⟩ := flat_drop (t := t) ((parts t).length - (i + 1))
    obtain ⟨gs, rfl, hk⟩ : ∃ gs, fs' = s' :: gs ∧ fs = kids s' ++ gs := by
      have z := ch'
      rw [e2] at z
      cases fs' with
      | nil => cases z
      | cons u gs =>
        have z' := z
        rw [List.flatMap_cons, parts_eq u] at z'
        simp only [List.cons_append, List.cons.injEq] at z'
        obtain ⟨rfl, z'⟩ := z'
        refine ⟨gs, rfl, flat_inj ?_⟩
        rw [B.ch, List.flatMap_append]
        exact z'.symm
    have hos := ok_parts' ho s' (List.mem_of_getElem? hs')
    obtain ⟨is, js, rfl, i1, i2⟩ : ∃ is js, ids = is ++ js ∧ is.map (fun m => ts[m]?) = (kids s').map some ∧ js.map (fun m => ts[m]?) = gs.map some := by
      have z := B.ix
      rw [hk, List.map_append] at z
      obtain ⟨x1, x2, rfl, z1, z2⟩ := List.map_eq_append_iff.mp z
      exact ⟨x1, x2, rfl, z1, z2⟩
    have il := congrArg List.length i1
    rw [List.length_map, List.length_map] at il
    have jl := congrArg List.length i2
    rw [List.length_map, List.length_map] at jl
    have kl2 := kids_le s'
    have rc2 := rc.keepT (B.b3.keepO eN1 eR1 eW1).keepT
    have hgl : gs.length ≤ 400 := by
      have z := congrArg List.length ch'
      rw [List.length_drop] at z
      have y : gs.length ≤ ((s' :: gs).flatMap parts).length := by
        clear ch' hk z i2 jl
        rw [List.flatMap_cons, List.length_append]
        induction gs with
        | nil => simp
        | cons u v ih =>
          rw [List.flatMap_cons, List.length_append, parts_eq u, List.length_cons, List.length_cons]
          omega
      omega
    refine ⟨_, rfl, c, s', rfl, rc2, hos.1, fun H3 p1 cs g3 e3 al3 => ?_⟩
    refine ⟨p1, rfl, ⟨_, SqT.of e3⟩, fun C hC => ?_⟩
    have eW3 := g3 _ _ B.eW
    have eR3 := g3 _ _ B.eR
    have eN3 := g3 _ _ B.eN
    have hWC : W ≠ C := ne_of_none eW3 hC
    have hRC : R ≠ C := ne_of_none eR3 hC
    have hNC : N ≠ C := ne_of_none eN3 hC
    have hpC : p1 ≠ C := ne_of_none e3 hC
    have hpW : p1 ≠ W := fun z => by rw [z, eW3] at e3; cases e3
    have hcl : cs.length = (kids s').length := al3.len
    refine lc_tup (xs := cs.map V.ref) (fun j H4 => H4 C = some (.lst ((is.take j).map fun (m : Nat) => V.int m)) ∧ H4 W = some (.lst (((is.drop j ++ js).reverse).map fun (m : Nat) => V.int m)) ∧ ∀ b o, b ≠ C → b ≠ W → H3 b = some o → H4 b = some o)
      ⟨upd_same, by rw [upd_ne hWC]; exact eW3, fun b o n1 n2 z => by rw [upd_ne n1]; exact z⟩ (fun j H4 hj pv => SqT.of (pv.2.2 _ _ hpC hpW e3)) (fun j v H4 hv pv => ?_) fun H4 pv => ?_
    · obtain ⟨eC, eW4, k4⟩ := pv
      have hj : j < is.length := by
        have := (List.getElem?_eq_some_iff.mp hv).1
        rw [List.length_map] at this
        omega
      have ed : is.drop j = is[j] :: is.drop (j + 1) := List.drop_eq_getElem_cons hj
      rw [ed] at eW4
      refine ⟨rfl, yes_turn ?_⟩
      refine ⟨_, rfl, .inl ⟨rfl, _, SqL.of eW4⟩, W, _, (V.int (is[j] : Nat)), rfl, rfl, eW4, last_nat _ _, ?_⟩
      refine ⟨_, (by rw [upd_ne hWC.symm]; exact eC), (by rw [List.length_map, List.length_take]; exact small' (by omega)), upd_same.trans ?_, ?_, ?_⟩
      · rw [List.take_succ_eq_append_getElem hj, List.map_append]
        rfl
      · rw [upd_ne hWC, upd_same]
        exact congrArg (fun z => some (HO.lst z)) (drop_nat _ _)
      · intro b o n1 n2 z
        rw [upd_ne n1, upd_ne n2]
        exact k4 b o n1 n2 z
    · obtain ⟨eC, eW4, k4⟩ := pv
      rw [List.length_map, hcl, ← il, List.take_length] at eC
      rw [List.length_map, hcl, ← il, List.drop_length, List.nil_append] at eW4
      have b4 : B3 N R W H2 H4 := fun b o n1 n2 n3 z => k4 b o (ne_of_none (g3 _ _ z) hC) n3 (g3 _ _ z)
      have eR4 := k4 _ _ hRC hRW eR3
      have eN4 := k4 _ _ hNC hNW eN3
      obtain ⟨cs2, ex, al⟩ := rc2.tup
      have hlen : cs2.length = (kids s').length := al.len
      have k24 : KeepT H2 H4 := (b4.keepO B.eN B.eR B.eW).keepT
      have ex4 := k24 _ _ ex
      refine ⟨_, rfl, c, s', rfl, rc2.keepT k24, hos.1, fun H5 p2 g5 e5 => ?_⟩
      have hd4 : s'.hd.length ≤ 4 := by
        obtain ⟨_, _, _, _, _, _, z⟩ := head_of hos.1
        exact z
      refine ⟨p2, _, rfl, .inl (SqT.of e5), _, rfl, C, _, rfl, .inr (SqL.of (g5 _ _ eC)), ?_, fun p3 hp3 => ?_⟩
      · rw [List.length_append, List.length_append, List.length_map, List.length_map, List.length_nil]
        exact small (by omega)
      have g6 := same_new (o := .tup (s'.hd.map kV ++ ((is.map fun (m : Nat) => V.int m) ++ []))) hp3
      have e6 : (upd H5 p3 (.tup (s'.hd.map kV ++ ((is.map fun (m : Nat) => V.int m) ++ [])))) p3 = some (.tup ((s'.hd ++ is.map (fun (j : Nat) => (Sum.inl (j : Int) : Key))).map kV)) := by
        rw [upd_same, List.append_nil, List.map_append, List.map_map]
        rfl
      have g46 := g5.trans g6
      have eR6 := g46 _ _ eR4
      have eN6 := g46 _ _ eN4
      have eW6 := g46 _ _ eW4
      have eC6 := g46 _ _ eC
      have b6 : B3 N R W H2 (upd H5 p3 (.tup (s'.hd.map kV ++ ((is.map fun (m : Nat) => V.int m) ++ [])))) := b4.trans (.of g46)
      have k26 := (b6.keepO B.eN B.eR B.eW).keepT
      generalize upd H5 p3 (.tup (s'.hd.map kV ++ ((is.map fun (m : Nat) => V.int m) ++ []))) = H6 at *
      clear g6 g5 e5 hp3 g46
      have hpN : p3 ≠ N := fun z => by rw [z, eN6] at e6; cases e6
      have hpR : p3 ≠ R := fun z => by rw [z, eR6] at e6; cases e6
      have hpW : p3 ≠ W := fun z => by rw [z, eW6] at e6; cases e6
      have k0 : KeepO H1 H6 := (B.b3.trans b6).keepO eN1 eR1 eW1
      have st1 : Stay g H6 := hSt ((KeepO.of gH).trans k0) hst
      have vr6 : Vr (M.AR H6) vals ts := B.vr.mono fun v s m h => M.st (fun b o e z => by
        subst e
        have n := (B.far b m).2
        exact b6 b o n.1 n.2.1 n.2.2 z) h
      have rc6 := rc2.keepT k26
      have dG := DGet.t eN6 e6
      have allN : ∀ s ∈ (parts t).drop ((parts t).length - (i + 1)), s ∈ ts ++ [s'] := fun s hs => by
        rw [e2] at hs
        rcases List.mem_cons.mp hs with rfl | hs
        · simp
        · exact List.mem_append_left _ (B.all s hs)
      refine ⟨_, rfl, _, rfl, N, _, rfl, dG, ?_⟩
      cases hv : valV kvs (s'.hd ++ is.map (fun (j : Nat) => (Sum.inl (j : Int) : Key))) with
      | some v =>
        obtain ⟨m, u, js2, rfl, hu1, hu2, hu3, hu4⟩ := B.dict _ _ hv
        obtain rfl : s' = u := key_same hos.1 hu2 hu3 i1 hu4
        refine ⟨_, rfl, iteF' ?_⟩
        refine ⟨_, rfl, .inl ⟨rfl, _, SqL.of eW6⟩, _, rfl, _, rfl, N, _, rfl, hv ▸ dG, W, _, _, rfl, rfl, eW6, small' (by rw [List.length_map, List.length_reverse]; omega), ?_⟩
        have b7 : B3 N R W H6 (upd H6 W (.lst ((js.reverse.map fun (m : Nat) => V.int m) ++ [V.int (m : Nat)]))) := B3.updW
        refine ⟨_, _, _, _, _, s' :: gs, m :: js, vals, ts, kvs, rfl, ch', ?_, ?_, ?_, ?_, B.far, ?_, B.kl, B.dict, (B.b3.trans b6).trans b7, Nat.le_succ_of_le B.tl, B.good, ?_⟩
        · rw [List.map_cons, List.map_cons, hu1, i2]
        · rw [upd_same, List.reverse_cons, List.map_append]
          rfl
        · rw [upd_ne hRW]
          exact eR6
        · exact vr6.mono fun v s m h => M.st (fun b o e z => by
            subst e
            have n := (B.far b m).2
            exact b7 b o n.1 n.2.1 n.2.2 z) h
        · rw [upd_ne hNW]
          exact eN6
        · intro s hs
          rw [e2] at hs
          rcases List.mem_cons.mp hs with rfl | hs
          · exact List.mem_of_getElem? hu1
          · exact B.all s hs
      | none =>
        refine ⟨_, rfl, iteT' ?_⟩
        refine ⟨_, rfl, .inl ⟨rfl, _, SqL.of eR6⟩, g, rfl, st1, _, rfl, _, rfl, C, rfl, ⟨_, SqL.of eC6⟩, fun C2 hC2 => ?_⟩
        refine lc_list (xs := is.map fun (m : Nat) => V.int m) (fun j H7 => Same H6 H7 ∧ ∃ xs, H7 C2 = some (.lst xs) ∧ Vr (M.AR H6) xs ((kids s').take j)) ⟨same_new hC2, [], upd_same, True.intro⟩ (fun j H7 hj pv => SqL.of (pv.1 _ _ eC6)) (fun j x H7 hx pv => ?_) fun H7 pv => ?_
        · obtain ⟨g7, xs, eX, vx⟩ := pv
          have hj := (List.getElem?_eq_some_iff.mp hx).1
          rw [List.length_map] at hj
          obtain ⟨m, hm, rfl⟩ : ∃ m, is[j]? = some m ∧ x = V.int (m : Nat) := by
            rw [List.getElem?_map] at hx
            cases z : is[j]? with
            | none => rw [z] at hx; cases hx
            | some m => rw [z] at hx; exact ⟨m, rfl, (Option.some.inj hx).symm⟩
          obtain ⟨u, hu1, hu2⟩ : ∃ u, (kids s')[j]? = some u ∧ ts[m]? = some u := by
            have z := congrArg (fun l => l[j]?) i1
            simp only [List.getElem?_map, hm, Option.map_some] at z
            cases y : (kids s')[j]? with
            | none => rw [y] at z; cases z
            | some u => rw [y] at z; exact ⟨u, rfl, Option.some.inj z⟩
          obtain ⟨v, hv1, hv2⟩ := vr6.get hu2
          refine ⟨rfl, yes_turn ?_⟩
          refine ⟨_, rfl, _, rfl, R, vals, m, v, rfl, rfl, SqL.of (g7 _ _ eR6), atI_nat hv1, xs, eX, small' (by rw [vx.len, List.length_take]; omega), same_fresh hC2 g7, _, upd_same, ?_⟩
          rw [List.take_add_one, hu1, Option.toList_some]
          exact vx.snoc1 hv2
        · obtain ⟨g7, xs, eX, vx⟩ := pv
          rw [List.length_map, il, List.take_length] at vx
          refine ⟨hSt (KeepO.of g7) st1, c, s', C2, xs, rfl, rc6.same g7, hos.1, Nat.le_trans hos.2 hc, hcn s' (List.mem_of_getElem? hs'), eX, vx.mono (fun v s m h => M.st (fun b o e z => g7 _ _ z) h), fun u hu' => ?_, fun hG v H8 g8 hA hf => ?_, fun hG H8 g8 => ?_⟩
          · refine B.good u ?_
            obtain ⟨j, hj⟩ := List.getElem?_of_mem hu'
            have z := congrArg (fun l => l[j]?) i1
            simp only [List.getElem?_map, hj, Option.map_some] at z
            cases y : is[j]? with
            | none => rw [y] at z; cases z
            | some m =>
              rw [y] at z
              exact List.mem_of_getElem? (Option.some.inj z)
          · have g68 := g7.trans g8
            have eR8 := g68 _ _ eR6
            have eN8 := g68 _ _ eN6
            have eW8 := g68 _ _ eW6
            have e8 := g68 _ _ e6
            have fN : ∀ b, v = .ref b → H b = none ∧ b ≠ N ∧ b ≠ R ∧ b ≠ W := fun b e => by
              have z := hf b e
              have nn : ∀ {d o}, H6 d = some o → b ≠ d := fun {d o} y w => by rw [w, g7 _ _ y] at z; cases z
              refine ⟨?_, nn eN6, nn eR6, nn eW6⟩
              cases y : H b with
              | none => rfl
              | some o =>
                have y2 := b6 b o (fun w => by rw [w, hN] at y; cases y) (fun w => by rw [w, hR0] at y; cases y) (fun w => by rw [w, hW0] at y; cases y) (B.b3 b o (fun w => by rw [w, hN] at y; cases y) (fun w => by rw [w, hR0] at y; cases y) (fun w => by rw [w, hW0] at y; cases y) (gH _ _ y))
                exact absurd rfl (nn y2)
            have vl := B.vr.len
            have tl := B.tl
            have kl := B.kl
            refine ⟨R, _, _, rfl, rfl, eR8, small' (by omega), ?_⟩
            have bR : B3 N R W H8 (upd H8 R (.lst (vals ++ [v]))) := B3.updR
            have eR9 := upd_same (H := H8) (a := R) (o := .lst (vals ++ [v]))
            have eN9 : (upd H8 R (.lst (vals ++ [v]))) N = some (.dT kvs) := by rw [upd_ne hNR]; exact eN8
            have eW9 : (upd H8 R (.lst (vals ++ [v]))) W = some (.lst (js.reverse.map fun (m : Nat) => V.int m)) := by rw [upd_ne hRW.symm]; exact eW8
            have e9 := bR _ _ hpN hpR hpW e8
            generalize upd H8 R (.lst (vals ++ [v])) = H9 at *
            have hlast : (((vals ++ [v]).length : Nat) : Int) - 1 = ((ts.length : Nat) : Int) := by
              rw [List.length_append, List.length_singleton]
              omega
            refine ⟨_, rfl, R, _, rfl, .inl (SqL.of eR9), _, _, rfl, rfl, _, rfl, _, rfl, N, _, rfl, dput_eq (congrArg V.int hlast) (DPut.t eN9 e9 (small' (by omega))), ?_⟩
            have b10 : B3 N R W H9 (upd H9 N (.dT (putK kvs (s'.hd ++ is.map (fun (j : Nat) => (Sum.inl (j : Int) : Key))) (V.int (ts.length : Nat))))) := B3.updN
            have eN10 := upd_same (H := H9) (a := N) (o := .dT (putK kvs (s'.hd ++ is.map (fun (j : Nat) => (Sum.inl (j : Int) : Key))) (V.int (ts.length : Nat))))
            have eR10 : (upd H9 N (.dT (putK kvs (s'.hd ++ is.map (fun (j : Nat) => (Sum.inl (j : Int) : Key))) (V.int (ts.length : Nat))))) R = some (.lst (vals ++ [v])) := by rw [upd_ne hNR.symm]; exact eR9
            have eW10 : (upd H9 N (.dT (putK kvs (s'.hd ++ is.map (fun (j : Nat) => (Sum.inl (j : Int) : Key))) (V.int (ts.length : Nat))))) W = some (.lst (js.reverse.map fun (m : Nat) => V.int m)) := by rw [upd_ne hNW.symm]; exact eW9
            have e10 := b10 _ _ hpN hpR hpW e9
            have hvp := valV_put kvs (s'.hd ++ is.map (fun (j : Nat) => (Sum.inl (j : Int) : Key)))
            have hlp := length_putK kvs (s'.hd ++ is.map (fun (j : Nat) => (Sum.inl (j : Int) : Key))) (V.int (ts.length : Nat))
            have hdict : ∀ k v, valV (putK kvs (s'.hd ++ is.map (fun (j : Nat) => (Sum.inl (j : Int) : Key))) (V.int (ts.length : Nat))) k = some v → ∃ (m : Nat) (s : Fm) (js : List Nat), v = .int m ∧ (ts ++ [s'])[m]? = some s ∧ Ok s ∧ k = s.hd ++ js.map (fun (j : Nat) => (Sum.inl (j : Int) : Key)) ∧ js.map (fun m => (ts ++ [s'])[m]?) = (kids s).map some := fun k v hk => by
              rw [hvp] at hk
              by_cases hkk : k = s'.hd ++ is.map (fun (j : Nat) => (Sum.inl (j : Int) : Key))
              · rw [if_pos hkk] at hk
                exact ⟨ts.length, s', is, (Option.some.inj hk).symm, by simp, hos.1, hkk, ixApp i1⟩
              · rw [if_neg hkk] at hk
                obtain ⟨m, u, js2, h1, h2, h3, h4, h5⟩ := B.dict k v hk
                exact ⟨m, u, js2, h1, getApp h2, h3, h4, ixApp h5⟩
            have hget := hvp (s'.hd ++ is.map (fun (j : Nat) => (Sum.inl (j : Int) : Key))) (V.int (ts.length : Nat))
            rw [if_pos rfl] at hget
            generalize putK kvs (s'.hd ++ is.map (fun (j : Nat) => (Sum.inl (j : Int) : Key))) (V.int (ts.length : Nat)) = kvs' at *
            generalize upd H9 N (.dT kvs') = H10 at *
            have b610 : B3 N R W H6 H10 := ((B3.of g68).trans bR).trans b10
            refine ⟨_, rfl, .inl ⟨rfl, _, SqL.of eW10⟩, _, rfl, _, rfl, N, _, rfl, hget ▸ DGet.t eN10 e10, W, _, _, rfl, rfl, eW10, small' (by rw [List.length_map, List.length_reverse]; omega), ?_⟩
            have b11 : B3 N R W H10 (upd H10 W (.lst ((js.reverse.map fun (m : Nat) => V.int m) ++ [V.int (ts.length : Nat)]))) := B3.updW
            have b611 := b610.trans b11
            refine ⟨_, _, _, _, _, s' :: gs, ts.length :: js, vals ++ [v], ts ++ [s'], kvs', rfl, ch', ?_, ?_, ?_, ?_, fun b hb => ?_, ?_, ?_, hdict, (B.b3.trans b6).trans b611, ?_, fun s hs => ?_, allN⟩
            · rw [List.map_cons, List.map_cons, ixApp i2]
              simp
            · rw [upd_same, List.reverse_cons, List.map_append]
              rfl
            · rw [upd_ne hRW]
              exact eR10
            · refine Vr.snoc1 (vr6.mono fun v s m h => M.st (fun b o e z => by
                subst e
                have n := (B.far b m).2
                exact b611 b o n.1 n.2.1 n.2.2 z) h) (M.st (fun b o e z => ?_) hA)
              have n := (fN b e).2
              exact b11 b o n.1 n.2.1 n.2.2 (b10 b o n.1 n.2.1 n.2.2 (bR b o n.1 n.2.1 n.2.2 z))
            · rcases List.mem_append.mp hb with hb | hb
              · exact B.far b hb
              · exact fN b (List.mem_singleton.mp hb).symm
            · rw [upd_ne hNW]
              exact eN10
            · rw [List.length_append, List.length_singleton]
              omega
            · rw [List.length_append, List.length_singleton]
              omega
            · rcases List.mem_append.mp hs with hs | hs
              · exact B.good s hs
              · rw [List.mem_singleton.mp hs]
                exact hG
          · exact qE (fun all => hG (all s' (List.mem_of_getElem? hs'))) H8 (((B3.same0 hN hR0 hW0 gH (B.b3.trans b6)).trans g7).trans g8)
  · obtain ⟨y5, y6, y7, y8, y9, fs, ids, vals, ts, kvs, rfl, B⟩ := p
    have ch := B.ch
    rw [hn, Nat.sub_self, List.drop_zero] at ch
    obtain rfl : fs = [t] := flat_inj (by rw [ch]; simp)
    have ix := B.ix
    have il := congrArg List.length ix
    rw [List.length_map, List.length_map] at il
    obtain ⟨m, rfl⟩ := List.length_eq_one_iff.mp il
    simp only [List.map_cons, List.map_nil, List.cons.injEq, and_true] at ix
    obtain ⟨v, hv, rv⟩ := B.vr.get ix
    have all := B.all
    rw [hn, Nat.sub_self, List.drop_zero] at all
    refine ⟨_, rfl, _, rfl, W, _, 0, _, rfl, rfl, SqL.of B.eW, rfl, R, vals, m, v, rfl, rfl, SqL.of B.eR, atI_nat hv, ?_⟩
    exact q (fun s hs => B.good s (all s hs)) v H2 (B3.same0 hN hR0 hW0 gH B.b3) rv fun b e => (B.far b (e ▸ List.mem_of_getElem? hv)).1
end
end K03

set_option Elab.async false
set_option linter.all false
set_option maxRecDepth 100000
set_option maxHeartbeats 1000000
/-! set comprehensions of texts, any number of clauses -/
namespace XCS
open PySem PySem.Spec PyProof.Rows L2 XS
/-- what stands behind the tests of clause k - 1: the next clause, or the element -/
def tailSem (e0 : Expr) (elt : Expr) (gs : List Comprehension) (k : Nat) (acc : Value) (env : Env) : Sem Unit :=
  match gs[k]? with
  | some g => do
    let x ← eval g.iter env
    standAt g.iter.pos
    let x ← foldedSetIterable g.iter env x
    let _ ← runOwn (.compStart e0 k (← holding [x] (pyIter x)) acc env) env
  | none => do let v ← eval elt env; standAt elt.pos; let _ ← call (.builtin "set.add") [acc, v]
theorem turn_eq (elt : Expr) (gs : List Comprehension) (scope : Scope) (pos : Pos) (k : Nat) (tg iter : Expr) (ifs : List Expr) (hk : gs[k]? = some ⟨tg, iter, ifs, 0⟩) (hn : ∀ g, gs[k + 1]? = some g → g.is_async = 0) (it acc : Value) (env : Env) :
    compTurn (.SetComp elt gs scope pos) k it acc env = (do
      standAt iter.pos
      match ← pyNext it with
      | none => pure (.done .next)
      | some v =>
        letOwnedTupleGo tg it v
        assign tg env v
        let ok ← forIn ifs true fun c r => if r = true then do let ok ← isTrue c env (eval c env); pure (ForInStep.yield ok) else pure (ForInStep.yield r)
        if ok = true then
          tailSem (.SetComp elt gs scope pos) elt gs (k + 1) acc env
        again (.compLoop (.SetComp elt gs scope pos) k it acc env)) := by
  unfold compTurn tailSem
  dsimp only
  rw [hk]
  cases hg : gs[k + 1]? with
  | none =>
    simp only [bne_self_eq_false, Bool.false_eq_true, if_false, bind_assoc, pure_bind]
    rfl
  | some g =>
    have := hn g hg
    obtain ⟨a, b, c, d⟩ := g
    simp only at this
    subst this
    simp only [bne_self_eq_false, Bool.false_eq_true, if_false, bind_assoc, pure_bind]
    rfl
section
variable {prog : Program} {w : World} {A : Around} {R : Result → Shared → Prop} {s : Shared} {elt tg iter : Expr} {ifs : List Expr} {gs : List Comprehension} {scope : Scope} {pos : Pos} {k : Nat} {it acc : Value} {env : Env}
theorem loop_any (hk : gs[k]? = some ⟨tg, iter, ifs, 0⟩) (hn : ∀ g, gs[k + 1]? = some g → g.is_async = 0) (I : Nat → Shared → Prop)
    (turn : ∀ n s, I n s → wpAny (model prog w) A (pyNext it) (fun r s1 => match r with
      | none => R (.ok .next) s1
      | some v => wpAny (model prog w) A (letOwnedTupleGo tg it v) (fun _ s1' => wpAny (model prog w) A (assign tg env v) (fun _ s2 =>
          wpAny (model prog w) A (forIn ifs true fun c r => if r = true then do let ok ← isTrue c env (eval c env); pure (ForInStep.yield ok) else pure (ForInStep.yield r)) (fun ok s3 =>
            if ok = true then wpAny (model prog w) A (tailSem (.SetComp elt gs scope pos) elt gs (k + 1) acc env) (fun _ s5 => ∃ m, m < n ∧ I m s5) (notedBy (model prog w) A env fun e s' => R (.error e) s') s3
            else ∃ m, m < n ∧ I m s3) (notedBy (model prog w) A env fun e s' => R (.error e) s') s2) (notedBy (model prog w) A env fun e s' => R (.error e) s') s1') (notedBy (model prog w) A env fun e s' => R (.error e) s') s1) (notedBy (model prog w) A env fun e s' => R (.error e) s') s)
    (n : Nat) (h : I n s) :
    codeAny (model prog w) A (.compLoop (.SetComp elt gs scope pos) k it acc env) R s := by
  refine codeAny_loop rfl I (fun n s hI => ?_) n h
  show wpAny _ A ((compTurn (.SetComp elt gs scope pos) k it acc env).onRaise (fun x => do noteFrame x env; theTreesLotGoes x)) _ _ s
  refine wpAny_noted ?_
  rw [turn_eq elt gs scope pos k tg iter ifs hk hn]
  refine wpAny_bind (wpAny_standAt (wpAny_bind (wpAny_mono (turn n s hI) (fun r s1 h1 => ?_) fun _ _ h' => h')))
  cases r with
  | none => exact wpAny_pure h1
  | some v =>
    refine wpAny_bind (wpAny_mono h1 (fun _ s1' h1' => ?_) fun _ _ h' => h')
    refine wpAny_bind (wpAny_mono h1' (fun _ s2 h2 => wpAny_bind (wpAny_mono h2 (fun ok s3 h3 => ?_) fun _ _ h' => h')) fun _ _ h' => h')
    cases ok with
    | false => exact wpAny_pure ⟨rfl, h3⟩
    | true => exact wpAny_bind (wpAny_mono h3 (fun _ s5 h5 => wpAny_pure ⟨rfl, h5⟩) fun _ _ h' => h')
theorem start_any (hk : gs[k]? = some ⟨tg, iter, ifs, 0⟩) (h0 : codeAny (model prog w) A (.compLoop (.SetComp elt gs scope pos) k it acc env) R s)
    (h : wpAny (model prog w) A (pyIter it) (fun it' s' => codeAny (model prog w) A (.compLoop (.SetComp elt gs scope pos) k it' acc env) R s') (notedBy (model prog w) A env fun x s' => R (.error x) s') s) :
    codeAny (model prog w) A (.compStart (.SetComp elt gs scope pos) k it acc env) R s := by
  have hc : (clausesOf (.SetComp elt gs scope pos))[k]? = some ⟨tg, iter, ifs, 0⟩ := hk
  refine codeAny_of_tree ?_
  show wpAny _ _ ((compStart (.SetComp elt gs scope pos) k it acc env).onRaise (fun x => do noteFrame x env; standAt theWindowsPlace)) _ _ s
  refine wpAny_notedAt ?_
  unfold compStart
  rw [hc]
  show wpAny _ _ (ask >>= _) _ _ s
  refine wpAny_bind (wpAny_askSetting (wpAny_ite ?_))
  split
  · first
      | exact wpAny_bind (wpAny_pure (wpAny_pure (And.intro rfl h0)))
      | exact wpAny_pure (And.intro rfl h0)
  · first
      | exact wpAny_bind (wpAny_rule (wpAny_bind (wpAny_standAt (wpAny_bind (wpAny_mono h (fun it' s' h' => wpAny_pure (And.intro rfl h')) fun _ _ x => x)))))
      | (refine wpAny_bind (wpAny_rule ?_); show wpAny _ _ (standAt iter.pos >>= _) _ _ s; exact wpAny_bind (wpAny_standAt (wpAny_bind (wpAny_mono h (fun it' s' h' => wpAny_pure (And.intro rfl h')) fun _ _ x => x))))
end
/-- the part of a block behind the tests of clause k - 1; ws: the slots that it stores -/
structure PB (B : Cx) (e0 elt : Expr) (gs : List Comprehension) (k : Nat) (D : Addr) (ws : List Nat) (t : L2.St → Hp → (Hp → Prop) → Prop) : Prop where
  run : ∀ (pins : List (Addr × Obj)) (s : Shared) (σ : L2.St) (H : Hp) (N : Hp → Prop), Inv B pins σ H s → t σ H N →
    wpAny (model B.prog B.w) B.A (tailSem e0 elt gs k (.ref D) B.env) (fun _ s' => ∃ H', Inv B pins (wipe σ ws) H' s' ∧ N H') (fun _ _ => False) s
theorem weak_wipe {B : Cx} {pins : List (Addr × Obj)} {σ : L2.St} {H : Hp} {s : Shared} (I : Inv B pins σ H s) (ws : List Nat) : Inv B pins (wipe σ ws) H s := I.weak (wipe_length _ _) fun j v e => (wipe_some e).1
theorem addX_call {P : Program} {w : World} {A : Around} {E : Value → Shared → Prop} {s : Shared} {a : Addr} {L : List Str} {k : Str} {tk : Tok} {Q : Value → Shared → Prop} (R : SetX w s.heap a L) (room : L.length + 1 < scanBound)
    (hQ : ∀ h', Heap.SameBut a s.heap h' → SetX w h' a (if k ∈ L then L else k :: L) → ∀ tk', Q .none { s with heap := h', toks := tk' }) : wpAny (model P w) A (call (.builtin "set.add") [.ref a, .str k tk]) Q E s := by
  have hT : s.TypeIs (.ref a) "set" := by
    obtain ⟨⟨o, es, ep, t, ho, hex, _⟩, _⟩ := R
    exact ⟨o, ho, hex.1⟩
  refine wpAny_call_entry F.slot_set_add hT F.entry_set_add ?_ (F.args_set_add_2 _ _)
  unfold Builtin.«set.add» Builtin.Frozenset.oneOther
  simp only [List.isEmpty_nil, bind_assoc]
  unfold Builtin.Frozenset.addrOf setAdd
  refine wpAny_bind (wpAny_pure ?_)
  try dsimp only
  refine wpAny_bind (wpAny_pure ?_)
  try dsimp only
  refine wpAny_bind (wpAny_holding (wpAny_bind ((PySem.strKind P w).pyHash (strKind_is P w k tk) ?_)))
  refine addX_hashed (s := { s with toks := s.toks + 1 }) R room fun h' b sb r => ?_
  show wpAny _ _ (ret Value.none) _ _ _
  exact wpAny_pure ⟨_, rfl, hQ h' sb r _⟩
theorem addX_ok {X : Cx} {pins : List (Addr × Obj)} {σ : L2.St} {H : Hp} {s : Shared} {E : Value → Shared → Prop} {D : Addr} {L : List Str} {y : Str} {u : Value} {Q : Value → Shared → Prop} (I : Inv X pins σ H s) (hD : H D = some (SetXO X.w D L)) (ru : RelV (.str y) u) (room : L.length + 1 < scanBound)
    (h : ∀ s', Inv X pins σ (upd H D (SetXO X.w D (if y ∈ L then L else y :: L))) s' → Q .none s') : wpAny (model X.prog X.w) X.A (call (.builtin "set.add") [.ref D, u]) Q E s := by
  have R : SetX X.w s.heap D L := (I.hok D _ hD).1
  obtain ⟨tk, rfl⟩ := ru
  refine addX_call R room fun h' sb new tk' => ?_
  have he : ∃ u, h'.get? D = some u := by
    have ⟨⟨o, _, _, _, ho, _⟩, _⟩ := new
    exact ⟨o, ho⟩
  exact h _ (I.write (e := D) (t' := tk') (by rw [hD]; trivial) (.inl rfl) (fun b u hb hu => (sb.2 b hb).trans hu) he (setXO_new new))
/-- the element -/
theorem pb_last {B : Cx} {e0 elt : Expr} {gs : List Comprehension} {k : Nat} {D : Addr} {te : TE} (hk : gs[k]? = none) (hxe : B.xe = fun _ _ => False) (he : PE B elt te) :
    PB B e0 elt gs k D [] fun σ H N => te σ H fun y H4 => ∃ x L, y = .str x ∧ H4 D = some (SetXO B.w D L) ∧ L.length + 1 < scanBound ∧ N (upd H4 D (SetXO B.w D (if x ∈ L then L else x :: L))) := ⟨fun pins s σ H N I h => by
  unfold tailSem
  rw [hk]
  refine wpAny_bind (wpAny_mono (he.run pins s σ H _ I h) (fun v s1 ⟨y, H1, I1, r1, x, L, ey, hD, hz, nx⟩ => ?_) fun e s' z => by rw [hxe] at z; exact z)
  subst ey
  exact wpAny_bind (wpAny_standAt (wpAny_bind (addX_ok (X := B) I1 hD r1 hz fun s2 I2 => wpAny_pure ⟨_, I2, nx⟩)))⟩
/-- a further clause -/
def tMid (wi : TI) (g : TG) (tt : TT) (ws : List Nat) (tl : L2.St → Hp → (Hp → Prop) → Prop) : L2.St → Hp → (Hp → Prop) → Prop := fun σ H N => wi σ H fun J H1 => ∃ W : Nat → Nat → Hp → Prop, (∃ m, W 0 m H1) ∧ ∀ j k H, W j k H →
  (J.stop j H ∧ N H) ∨ (J.go j H ∧ ∃ Nx : Hp → Prop, (∀ H', Nx H' → ∃ k', k' < k ∧ W (j + 1) k' H') ∧ ∀ x H', J.yld j H x H' → g x (wipe σ ws) H' fun σ3 H5 => wipe σ3 ws = wipe σ ws ∧ tt σ3 H5 fun b H6 =>
    if b = true then tl σ3 H6 Nx else Nx H6)
theorem pb_mid {B : Cx} {elt tg iter : Expr} {ifs : List Expr} {gs : List Comprehension} {scope : Scope} {pos : Pos} {k : Nat} {D : Addr} {ws ws' : List Nat} {wi : TI} {g : TG} {tt : TT} {tl : L2.St → Hp → (Hp → Prop) → Prop}
    (hk : gs[k]? = some ⟨tg, iter, ifs, 0⟩) (hn : ∀ g, gs[k + 1]? = some g → g.is_async = 0) (hxe : B.xe = fun _ _ => False) (hc : B.calm = true) (hs : ∀ env x, foldedSetIterable iter env x = pure x)
    (hi : PI B tg iter wi) (hg : PG B tg g) (ht : PTs B ifs tt) (hw : ∀ i ∈ ws', i ∈ ws) (hb : PB B (.SetComp elt gs scope pos) elt gs (k + 1) D ws' tl) :
    PB B (.SetComp elt gs scope pos) elt gs k D ws (tMid wi g tt ws tl) := ⟨fun pins s σ H N I h => by
  have toF : ∀ {e : Value} {s' : Shared}, B.xe e s' → False := fun z => by rw [hxe] at z; exact z
  unfold tailSem
  rw [hk]
  refine wpAny_bind (wpAny_mono (hi.run pins s σ H _ I h) (fun xv s1 hx => ?_) fun _ _ z => toF z)
  refine wpAny_bind (wpAny_standAt ?_)
  refine wpAny_bind (wpAny_of_eq (hs B.env xv) (wpAny_bind (wpAny_holding (wpAny_mono hx (fun itv s2 h2 => ?_) fun _ _ z => toF z))))
  obtain ⟨it1, fp1, tn1, J1, H2, e1, I2, T1, st2, f2, W1, ⟨m1, w1⟩, turn1⟩ := h2
  subst e1
  have stat1 : ∀ {H' : Hp}, (∀ b ∈ fp1, H' b = none) → ∀ b ∈ fp1, FpOk B pins H' b := fun hn b hb => ⟨hn b hb, (f2 b hb).2⟩
  have loop1 : codeAny (model B.prog B.w) B.A (.compLoop (.SetComp elt gs scope pos) k (.ref it1) (.ref D) B.env)
      (fun r s' => match r with
        | .ok _ => ∃ H', Inv B pins (wipe σ ws) H' s' ∧ N H'
        | .error _ => False) s2 := by
    refine loop_any hk hn (fun n s' => ∃ j H', Inv B pins (wipe σ ws) H' s' ∧ tn1 j s'.heap ∧ (∀ b ∈ fp1, H' b = none) ∧ W1 j n H') ?_ m1 ⟨0, H2, weak_wipe I2 ws, st2, fun b hb => (f2 b hb).1, w1⟩
    rintro n s3 ⟨j, H3, I3, st3, n3, w3⟩
    rcases turn1 j n H3 w3 with ⟨stop1, nx1⟩ | ⟨go1, Nx1, hNx1, step1⟩
    · refine thnF (T1.done B rfl rfl rfl hc j _ s3 (wipe σ ws) H3 (fun _ _ => False) I3 (stat1 n3) st3 stop1) fun r s4 ⟨hr, I4⟩ => ?_
      subst hr
      exact ⟨H3, I4, nx1⟩
    · refine thnF (T1.item B rfl rfl rfl hc j _ s3 (wipe σ ws) H3 (fun _ _ => False) I3 (stat1 n3) st3 go1) fun r s4 ⟨u1, hr, h4⟩ => ?_
      subst hr
      refine thnF h4 fun _ s5 ⟨x1, H5, I5, r5, y5, st5, n5⟩ => ?_
      have I5' := I5.pinned (stat1 n5) (T1.obj _ _ st5)
      refine wpAny_mono (hg.run _ s5 (wipe σ ws) H5 x1 u1 _ I5' r5 (step1 x1 H5 y5)) (fun _ s6 ⟨σ6, H6, I6, hw6, q6⟩ => ?_) fun _ _ z => (toF z).elim
      refine wpAny_mono (ht.run _ s6 σ6 H6 _ I6 q6) (fun b1 s7 ⟨H7, I7, q7⟩ => ?_) fun _ _ z => (toF z).elim
      have fin1 : ∀ {s' : Shared} {H' : Hp}, Inv B (pins ++ pinsAt fp1 s5.heap) (wipe σ6 ws) H' s' → Nx1 H' → ∃ m, m < n ∧ ∃ j H', Inv B pins (wipe σ ws) H' s' ∧ tn1 j s'.heap ∧ (∀ b ∈ fp1, H' b = none) ∧ W1 j m H' := fun {s' H'} I' nx => by
        obtain ⟨m', hm, w'⟩ := hNx1 H' nx
        have pin' : ∀ b ∈ fp1, ∀ o, s5.heap.get? b = some o → s'.heap.get? b = some o ∧ H' b = none := fun b hb o e =>
          let z := I'.pin (b, o) (List.mem_append_right _ (List.mem_append_right _ (mem_pinsAt hb e)))
          ⟨z.1, z.2.1⟩
        rw [hw6] at I'
        refine ⟨m', hm, j + 1, H', I'.unpinned, T1.keep _ _ _ st5 fun b hb o e => (pin' b hb o e).1, fun b hb => ?_, w'⟩
        obtain ⟨o, e, _⟩ := T1.obj _ _ st5 b hb
        exact (pin' b hb o e).2
      cases b1 with
      | false =>
        simp only [Bool.false_eq_true, if_false] at q7 ⊢
        exact fin1 (weak_wipe I7 ws) q7
      | true =>
        simp only [if_true] at q7 ⊢
        refine thnF (hb.run _ s7 σ6 H7 _ I7 q7) fun _ s8 ⟨H8, I8, nx⟩ => fin1 (I8.weak (by rw [wipe_length, wipe_length]) fun j v e => ?_) nx
        obtain ⟨z1, z2⟩ := wipe_some e
        rw [wipe_out fun m => z2 (hw j m)]
        exact z1
  refine wpAny_bind (wpAny_runOwn ?_)
  rw [Around.mark_none]
  refine codeAny_mono (start_any hk loop1 (T1.self B.A 0 _ _ _ st2 loop1)) fun r s' hr => ?_
  cases r with
  | ok f =>
    first
      | exact wpAny_pure hr
      | exact hr
  | error e => exact hr.elim⟩
section
variable {X : Cx}
/-- [elt for tg in iter if .. rest]: tl, by the new list, is the reading of what stands behind the first clause's tests -/
def tScN (w : World) (wi : TI) (g : TG) (tt : TT) (vs : List Nat) (tl : Addr → L2.St → Hp → (Hp → Prop) → Prop) : TE := fun σ H Q => wi σ H fun J H1 => ∀ D, H1 D = none → ∃ W : Nat → Nat → Hp → Prop, (∃ m, W 0 m (upd H1 D (SetXO w D []))) ∧ ∀ i m H, W i m H →
  (J.stop i H ∧ Q (.ref D) H) ∨ (J.go i H ∧ ∃ Nx : Hp → Prop, (∀ H', Nx H' → ∃ m', m' < m ∧ W (i + 1) m' H') ∧ ∀ x H', J.yld i H x H' → g x (wipe σ vs) H' fun σ2 H2 => wipe σ2 vs = wipe σ vs ∧ tt σ2 H2 fun b H3 =>
    if b = true then tl D σ2 H3 Nx else Nx H3)
theorem scN_core {pins : List (Addr × Obj)} {s : Shared} {σ : L2.St} {H : Hp} {Q : VK} {elt tg iter : Expr} {ifs : List Expr} {rest : List Comprehension} {scope : Scope} {own : List (Str × Nat)} {ws' : List Nat} {pos pos' : Pos} {wi : TI} {g : TG} {tt : TT} {tl : Addr → L2.St → Hp → (Hp → Prop) → Prop} {use : Option (Value → Sem Unit)} {Qf : Value → Shared → Prop}
    (hc : X.calm = true) (hN : X.N.Nodup) (I : Inv X pins σ H s) (hi : PI X tg iter wi) (ok : BlkOk X.N X.env.scope scope own) (hw : ∀ i ∈ ws', i ∈ own.map (·.2)) (hn : ∀ g, rest[0]? = some g → g.is_async = 0)
    (hg : ∀ (s : Shared) (H : Hp) (C : Addr) (cl : List (Str × Addr)) (fp : List Addr), PG (X.blk s H scope (compEnvC scope cl C X.env) fp) tg g) (ht : ∀ (s : Shared) (H : Hp) (C : Addr) (cl : List (Str × Addr)) (fp : List Addr), PTs (X.blk s H scope (compEnvC scope cl C X.env) fp) ifs tt)
    (hb : ∀ (s : Shared) (H : Hp) (C : Addr) (cl : List (Str × Addr)) (fp : List Addr) (D : Addr), PB (X.blk s H scope (compEnvC scope cl C X.env) fp) (.SetComp elt (⟨tg, iter, ifs, 0⟩ :: rest) scope pos) elt (⟨tg, iter, ifs, 0⟩ :: rest) 1 D ws' (tl D)) (hs : ∀ x, foldedSetIterable iter X.env x = pure x)
    (h : tScN X.w wi g tt (own.map (·.2)) tl σ H Q)
    (hRR : ∀ D C s' m H', Inv X pins σ H' s' → Q (.ref D) H' → s'.heap.Ns C m → FpOk X pins H' C → compPost (model X.prog X.w) X.A X.xe use Qf (.ref D) C (.ok .next) s') :
    wpAny (model X.prog X.w) X.A (comprehension (.SetComp elt (⟨tg, iter, ifs, 0⟩ :: rest) scope pos) scope X.env pos' (newSet (.type "set")) false (eval iter X.env) use) Qf X.xe s := by
  have hfree : ∀ y ∈ scope.names, y.2 = .free → ∃ c, X.env.cells.lookup y.1 = some c := fun y hy e => by
    rcases ok.free y hy e with k | k
    · exact I.ok.has _ (.inl k)
    · exact I.ok.has _ (.inr k)
  refine wpAny_comprehension_free (use := use) rfl hs (closure_ok hfree) ok.kind (fun y hy e => by rw [ok.uniq y hy, e])
    (thn (hi.run pins s σ H _ I h) fun xv s1 hx => thn hx fun itv s2 h2 => ?_)
  obtain ⟨it, fp, tn, J, H2, e, I2, T, st2, f2, q⟩ := h2
  subst e
  refine PpSet.newSet_ok (newEnv_comp ?_)
  generalize hD : s2.heap.objs.size = D
  obtain ⟨W, ⟨m0, w0⟩, turn⟩ := q D (I2.hok.fresh (Nat.le_of_eq hD))
  generalize hs3 : ({ s2 with heap := s2.heap.push { cls := .type "set", dict := none, data := .set #[] 0 (.fresh 0 0 (!X.w.params.followText "set-order")) } } : Shared) = s3
  have I3 : Inv X pins σ (upd H2 D (SetXO X.w D [])) s3 := by
    rw [← hs3]
    refine I2.laid (t' := s2.toks) (fun b o e => Heap.get?_push_of_some _ e) (Nat.le_of_eq hD) ?_
    rw [← hD]
    exact setXO_new (bareX (Heap.get?_push_size _ rfl))
  have h3 : s3.heap = s2.heap.push { cls := .type "set", dict := none, data := .set #[] 0 (.fresh 0 0 (!X.w.params.followText "set-order")) } := by rw [← hs3]
  have f3 : ∀ b ∈ fp, FpOk X pins (upd H2 D (SetXO X.w D [])) b ∧ b < s3.heap.objs.size := fun b hb => by
    obtain ⟨o, e, _⟩ := T.obj _ _ st2 b hb
    have hlt := Heap.lt_size e
    refine ⟨⟨?_, (f2 b hb).2⟩, by rw [h3, Heap.size_push]; exact Nat.lt_succ_of_lt hlt⟩
    rw [upd_ne (by rw [← hD]; exact Nat.ne_of_lt hlt)]
    exact (f2 b hb).1
  have st3 : tn 0 s3.heap := T.keep _ _ _ st2 fun b _ o e => by rw [h3]; exact Heap.get?_push_of_some _ e
  have I4 := block_start I3 ok hN f3
  have pg := hg s3 (upd H2 D (SetXO X.w D [])) s3.heap.objs.size (cellsFrom (s3.heap.objs.size + 1) scope.names (cloFrom X.env.cells scope.names [])) fp
  have pt := ht s3 (upd H2 D (SetXO X.w D [])) s3.heap.objs.size (cellsFrom (s3.heap.objs.size + 1) scope.names (cloFrom X.env.cells scope.names [])) fp
  have pb := hb s3 (upd H2 D (SetXO X.w D [])) s3.heap.objs.size (cellsFrom (s3.heap.objs.size + 1) scope.names (cloFrom X.env.cells scope.names [])) fp D
  show codeAny _ _ (.compStart (.SetComp elt (⟨tg, iter, ifs, 0⟩ :: rest) scope pos) 0 (.ref it) (.ref D) (compEnvC scope (cellsFrom (s3.heap.objs.size + 1) scope.names (cloFrom X.env.cells scope.names [])) s3.heap.objs.size X.env)) (compPost (model X.prog X.w) X.A X.xe use Qf (.ref D) s3.heap.objs.size) { s3 with heap := pushCells (s3.heap.push { cls := .type "dict", data := .dict #[] }) scope.names }
  have nfp : ∀ b ∈ fp, (upd H2 D (SetXO X.w D [])) b = none := fun b hb => (f3 b hb).1.1
  generalize hce : compEnvC scope (cellsFrom (s3.heap.objs.size + 1) scope.names (cloFrom X.env.cells scope.names [])) s3.heap.objs.size X.env = ce at I4 pg pt pb ⊢
  have cL : ce.locals = s3.heap.objs.size := by subst hce; rfl
  generalize hH3 : upd H2 D (SetXO X.w D []) = H3 at I3 I4 pg pt pb w0 nfp f3
  generalize hs4 : ({ s3 with heap := pushCells (s3.heap.push { cls := .type "dict", data := .dict #[] }) scope.names } : Shared) = s4 at I4 ⊢
  have st4 : tn 0 s4.heap := T.keep _ _ _ st3 fun b _ o e => by rw [← hs4]; exact pushCells_keeps _ _ _ _ (Heap.get?_push_of_some _ e)
  have stat : ∀ {σ' : L2.St} {H' : Hp} {s' : Shared}, Inv (X.blk s3 H3 scope ce fp) [] σ' H' s' → (∀ b ∈ fp, H' b = none) → ∀ b ∈ fp, FpOk (X.blk s3 H3 scope ce fp) [] H' b := fun {σ' H' s'} I' hn b hb =>
    ⟨hn b hb, (I'.ok.exf b hb).1, I'.ok.exfs b hb, .inl hb, fun x c e => (I'.ok.exf b hb).2 x c e, fun p hp => absurd (show p ∈ ([] : List (Addr × Obj)) ++ [] from hp) (by simp)⟩
  have loop : codeAny (model X.prog X.w) X.A (.compLoop (.SetComp elt (⟨tg, iter, ifs, 0⟩ :: rest) scope pos) 0 (.ref it) (.ref D) ce) (compPost (model X.prog X.w) X.A X.xe use Qf (.ref D) s3.heap.objs.size) s4 := by
    refine loop_any (k := 0) (gs := ⟨tg, iter, ifs, 0⟩ :: rest) rfl (fun g hg => hn g hg) (fun n s' => ∃ i H', Inv (X.blk s3 H3 scope ce fp) [] (wipe σ (own.map (·.2))) H' s' ∧ tn i s'.heap ∧ (∀ b ∈ fp, H' b = none) ∧ W i n H') ?_ m0 ⟨0, H3, I4, st4, nfp, w0⟩
    rintro n s5 ⟨i, H5, I5, st5, n5, w5⟩
    rcases turn i n H5 w5 with ⟨stop, qq⟩ | ⟨go, Nx, hNx, step⟩
    · have td := T.done (X.blk s3 H3 scope ce fp) rfl rfl rfl hc i [] s5 _ H5 (fun _ _ => False) I5 (stat I5 n5) st5 stop
      refine thnF td fun r s6 ⟨hr, I6⟩ => ?_
      subst hr
      have I7 : Inv X pins σ H5 s6 := I3.call' (ch := fp) I6.os I6.base I6.hok I6.bare fun b hb => ⟨(f3 b hb).1.2.2.2.1, (f3 b hb).1.2.1, (f3 b hb).1.2.2.2.2.1, (f3 b hb).1.2.2.2.2.2⟩
      have nC : H5 s3.heap.objs.size = none := by
        have z : H5 ce.locals = none := I6.free
        rw [cL] at z
        exact z
      obtain ⟨m, hn, _⟩ := I6.loc
      have hn : s6.heap.Ns ce.locals m := hn
      rw [cL] at hn
      exact hRR D s3.heap.objs.size s6 m H5 I7 qq hn (I3.fpOk (Nat.le_refl _) nC)
    · have ti := T.item (X.blk s3 H3 scope ce fp) rfl rfl rfl hc i [] s5 _ H5 (fun _ _ => False) I5 (stat I5 n5) st5 go
      refine thnF ti fun r s6 ⟨u, hr, h6⟩ => ?_
      subst hr
      refine thnF h6 fun _ s7 ⟨x, H7, I7, r7, y7, st7, n7⟩ => ?_
      have I7' := I7.pinned (stat I7 n7) (T.obj _ _ st7)
      refine thnF (pg.run _ s7 _ H7 x u _ I7' r7 (step x H7 y7)) fun _ s8 ⟨σ8, H8, I8, hw8, q8⟩ => ?_
      refine thnF (pt.run _ s8 σ8 H8 _ I8 q8) fun b s9 ⟨H9, I9, q9⟩ => ?_
      have fin : ∀ {s' : Shared} {H' : Hp}, Inv (X.blk s3 H3 scope ce fp) ([] ++ pinsAt fp s7.heap) (wipe σ8 (own.map (·.2))) H' s' → Nx H' → ∃ m, m < n ∧ ∃ i H', Inv (X.blk s3 H3 scope ce fp) [] (wipe σ (own.map (·.2))) H' s' ∧ tn i s'.heap ∧ (∀ b ∈ fp, H' b = none) ∧ W i m H' := fun {s' H'} I' nx => by
        obtain ⟨m', hm, w'⟩ := hNx H' nx
        have pin' : ∀ b ∈ fp, ∀ o, s7.heap.get? b = some o → s'.heap.get? b = some o ∧ H' b = none := fun b hb o e =>
          let z := I'.pin (b, o) (List.mem_append_right _ (List.mem_append_right _ (mem_pinsAt hb e)))
          ⟨z.1, z.2.1⟩
        rw [hw8] at I'
        refine ⟨m', hm, i + 1, H', I'.unpinned (pins := []), T.keep _ _ _ st7 fun b hb o e => (pin' b hb o e).1, fun b hb => ?_, w'⟩
        obtain ⟨o, e, _⟩ := T.obj _ _ st7 b hb
        exact (pin' b hb o e).2
      cases b with
      | false =>
        simp only [Bool.false_eq_true, if_false] at q9 ⊢
        exact fin (weak_wipe I9 _) q9
      | true =>
        simp only [if_true] at q9 ⊢
        refine thnF (pb.run _ s9 σ8 H9 _ I9 q9) fun _ s10 ⟨H10, I10, nx⟩ => fin (I10.weak (by rw [wipe_length, wipe_length]) fun j v e => ?_) nx
        obtain ⟨z1, z2⟩ := wipe_some e
        rw [wipe_out fun m => z2 (hw j m)]
        exact z1
  exact PpSet.codeAny_compStart_set loop (T.self X.A 0 _ _ _ st4 loop)
/-- as a value -/
theorem pe_scN {elt tg iter : Expr} {ifs : List Expr} {rest : List Comprehension} {scope : Scope} {own : List (Str × Nat)} {ws' : List Nat} {pos : Pos} {wi : TI} {g : TG} {tt : TT} {tl : Addr → L2.St → Hp → (Hp → Prop) → Prop} (hc : X.calm = true) (hN : X.N.Nodup) (hi : PI X tg iter wi) (ok : BlkOk X.N X.env.scope scope own)
    (hw : ∀ i ∈ ws', i ∈ own.map (·.2)) (hn : ∀ g, rest[0]? = some g → g.is_async = 0)
    (hg : ∀ (s : Shared) (H : Hp) (C : Addr) (cl : List (Str × Addr)) (fp : List Addr), PG (X.blk s H scope (compEnvC scope cl C X.env) fp) tg g) (ht : ∀ (s : Shared) (H : Hp) (C : Addr) (cl : List (Str × Addr)) (fp : List Addr), PTs (X.blk s H scope (compEnvC scope cl C X.env) fp) ifs tt)
    (hb : ∀ (s : Shared) (H : Hp) (C : Addr) (cl : List (Str × Addr)) (fp : List Addr) (D : Addr), PB (X.blk s H scope (compEnvC scope cl C X.env) fp) (.SetComp elt (⟨tg, iter, ifs, 0⟩ :: rest) scope pos) elt (⟨tg, iter, ifs, 0⟩ :: rest) 1 D ws' (tl D)) (hs : ∀ x, foldedSetIterable iter X.env x = pure x := by intro _; rfl) :
    PE X (.SetComp elt (⟨tg, iter, ifs, 0⟩ :: rest) scope pos) (tScN X.w wi g tt (own.map (·.2)) tl) := by
  refine ⟨fun pins s σ H Q I h => ?_⟩
  rw [PpSet.eval_SetComp]
  refine scN_core hc hN I hi ok hw hn hg ht hb hs h fun D C s' m H' I' q hn f => ⟨m, hn, fun h'' sb => ?_⟩
  obtain ⟨f0, f1, f2, f3, f4, f5⟩ := f
  exact ⟨.ref D, H', I'.turned (t' := s'.toks) (fun b o hb e => (sb.2 b hb).trans e) f0 f1 f3 f4 f5, rfl, q⟩
end
end XCS

set_option Elab.async false
set_option linter.all false
set_option maxRecDepth 100000
set_option maxHeartbeats 2000000
namespace K03
open PySem PySem.Spec PyProof.Rows L2 XS XCS
/-! ### free variables -/
def keyS : List Key → List Str
  | [] => []
  | .inl _ :: r => keyS r
  | .inr x :: r => x :: keyS r
def leafN : List Key → List Str
  | .inr w :: r => if w = "label" ∨ w = "child" then keyS (r.drop 1) else keyS r
  | _ => []
def Fv : Fm → List Str
  | .leaf h => leafN h
  | .un h f => match h with
    | [_, .inr x] => (Fv f).filter (fun y => decide (y ≠ x))
    | _ => Fv f
  | .bin _ f g => Fv f ++ Fv g
def nn : Fm → Nat
  | .leaf h => (leafN h).length
  | .un _ f => nn f
  | .bin _ f g => nn f + nn g
theorem fv_le : ∀ t : Fm, (Fv t).length ≤ nn t
  | .leaf h => Nat.le_refl _
  | .un h f => by
    have := fv_le f
    unfold Fv nn
    split
    · exact Nat.le_trans (List.length_filter_le _ _) this
    · exact this
  | .bin h f g => by
    have a := fv_le f
    have b := fv_le g
    simp only [Fv, nn, List.length_append]
    omega
theorem nn_parts : ∀ {t s : Fm}, s ∈ parts t → nn s ≤ nn t
  | .leaf h, s, hs => by simp only [parts, List.mem_singleton] at hs; subst hs; exact Nat.le_refl _
  | .un h f, s, hs => by
    simp only [parts, List.mem_cons] at hs
    rcases hs with rfl | hs
    · exact Nat.le_refl _
    · show nn s ≤ nn f
      exact nn_parts (t := f) hs
  | .bin h f g, s, hs => by
    simp only [parts, List.mem_cons, List.mem_append] at hs
    rcases hs with rfl | hs | hs
    · exact Nat.le_refl _
    · have := nn_parts hs
      simp only [nn]
      omega
    · have := nn_parts hs
      simp only [nn]
      omega
def leS (a b : Str) : Prop := ltCps b.cps.toList a.cps.toList = false
theorem leS_iff {a b : Str} : leS a b ↔ a.cps.toList ≤ b.cps.toList := by
  unfold leS
  rw [ltCps_eq, decide_eq_false_iff_not]
  exact List.not_lt
theorem leS_trans {a b c : Str} (h : leS a b) (k : leS b c) : leS a c := leS_iff.mpr (List.le_trans (leS_iff.mp h) (leS_iff.mp k))
theorem leS_anti {a b : Str} (h : leS a b) (k : leS b a) : a = b := by
  have e := List.le_antisymm (leS_iff.mp h) (leS_iff.mp k)
  exact Str.ext' (Array.toList_inj.mp e)
theorem risingS_pw : ∀ (p : Str) (l : List Str), risingS p l = true → (p :: l).Pairwise leS
  | p, [], _ => List.pairwise_singleton _ _
  | p, x :: r, h => by
    simp only [risingS, Bool.and_eq_true, Bool.not_eq_true'] at h
    have ih := risingS_pw x r h.2
    refine List.pairwise_cons.mpr ⟨fun y hy => ?_, ih⟩
    rcases List.mem_cons.mp hy with rfl | hy
    · exact h.1
    · exact leS_trans (show leS p x from h.1) ((List.pairwise_cons.mp ih).1 y hy)
theorem sortedS_pw : ∀ {l : List Str}, sortedS l = true → l.Pairwise leS
  | [], _ => List.Pairwise.nil
  | x :: r, h => risingS_pw x r h
structure IsFr (L xs : List Str) : Prop where
  s : L.Pairwise leS
  n : L.Nodup
  m : ∀ x, x ∈ L ↔ x ∈ xs
theorem IsFr.len {L xs : List Str} (h : IsFr L xs) : L.length ≤ xs.length := h.n.length_le_of_subset fun x m => (h.m x).mp m
theorem IsFr.uniq {L L' xs ys : List Str} (h : IsFr L xs) (k : IsFr L' ys) (e : ∀ x, x ∈ xs ↔ x ∈ ys) : L = L' :=
  List.Perm.eq_of_pairwise (fun a b _ _ x y => leS_anti x y) h.s k.s ((List.perm_ext_iff_of_nodup h.n k.n).mpr fun a => (h.m a).trans ((e a).trans (k.m a).symm))
theorem once_nd (xs : List Str) : (once xs).Nodup := once_nodup xs [] List.nodup_nil
theorem isFr_once {ys xs : List Str} (p : ys.Perm (once xs)) (s : sortedS ys = true) : IsFr ys xs := ⟨sortedS_pw s, p.nodup_iff.mpr (once_nd xs), fun x => p.mem_iff.trans once_mem⟩
theorem isFr_set {ys L xs : List Str} (p : ys.Perm L) (s : sortedS ys = true) (n : L.Nodup) (m : ∀ x, x ∈ L ↔ x ∈ xs) : IsFr ys xs := ⟨sortedS_pw s, p.nodup_iff.mpr n, fun x => p.mem_iff.trans (m x)⟩
theorem IsFr.filter {L xs : List Str} (h : IsFr L xs) (p : Str → Bool) : IsFr (L.filter p) (xs.filter p) := ⟨h.s.filter p, h.n.sublist List.filter_sublist, fun x => by rw [List.mem_filter, List.mem_filter, h.m]⟩
def arFr (H : Hp) (v : V) (t : Fm) : Prop := ∃ (p : Addr) (L : List Str), v = .ref p ∧ H p = some (.lst (L.map V.str)) ∧ IsFr L (Fv t)
theorem arFr_st {H H' : Hp} {v : V} {t : Fm} (g : ∀ b o, v = .ref b → H b = some o → H' b = some o) (h : arFr H v t) : arFr H' v t := by
  obtain ⟨p, L, rfl, e, i⟩ := h
  exact ⟨p, L, rfl, g p _ rfl e, i⟩
def frM : Abv := ⟨arFr, fun _ => True, 0, fun t => nn t ≤ 63, arFr_st⟩
/-- how many -/
def fewG (t : Fm) : Prop := (once (Fv t)).length ≤ 6
theorem IsFr.few {L xs : List Str} (h : IsFr L xs) : L.length = (once xs).length := ((List.perm_ext_iff_of_nodup h.n (once_nd xs)).mpr fun a => (h.m a).trans once_mem.symm).length_eq
def fewM (C : Addr) : Abv := ⟨arFr, fewG, C, fun t => nn t ≤ 63, arFr_st⟩
/-- a tuple of the top -/
def KTup (K : PySem.W.Frag) (a : Addr) (xs : List V) : Prop := ∃ (o : Obj) (its : Array Value) (n : Nat), K.lookup a = some o ∧ o.cls = .type "tuple" ∧ o.data = .seq its n ∧ its.size ≤ sizeLine ∧ Vals xs its.toList
theorem KTup.sq {K : PySem.W.Frag} {a : Addr} {xs : List V} (h : KTup K a xs) (H : Hp) : SqT K H a xs := .inr h
def tLastS (w : World) (D : Addr) (te : TE) : L2.St → Hp → (Hp → Prop) → Prop := fun σ H N => te σ H fun y H4 => ∃ x L, y = .str x ∧ H4 D = some (SetXO w D L) ∧ L.length + 1 < scanBound ∧ N (upd H4 D (SetXO w D (if x ∈ L then L else x :: L)))
theorem lcN_list {K : PySem.W.Frag} {a : Addr} {xs : List V} {g : TG} {tt : TT} {vs : List Nat} {σ : L2.St} {tl : L2.St → Hp → (Hp → Prop) → Prop} {H0 : Hp} {Qd : Hp → Prop} (Pv : Nat → Hp → Prop) (h0 : Pv 0 H0) (hl : ∀ i H, i ≤ xs.length → Pv i H → SqL K H a xs)
    (hs : ∀ i x H, xs[i]? = some x → Pv i H → g x (wipe σ vs) H fun σ2 H2 => wipe σ2 vs = wipe σ vs ∧ tt σ2 H2 fun b H3 => if b = true then tl σ2 H3 (Pv (i + 1)) else Pv (i + 1) H3) (hd : ∀ H, Pv xs.length H → Qd H) :
    ∃ W : Nat → Nat → Hp → Prop, (∃ m, W 0 m H0) ∧ ∀ i m H, W i m H →
      ((Itl K a).stop i H ∧ Qd H) ∨ ((Itl K a).go i H ∧ ∃ Nx : Hp → Prop, (∀ H', Nx H' → ∃ m', m' < m ∧ W (i + 1) m' H') ∧ ∀ x H', (Itl K a).yld i H x H' → g x (wipe σ vs) H' fun σ2 H2 => wipe σ2 vs = wipe σ vs ∧ tt σ2 H2 fun b H3 =>
        if b = true then tl σ2 H3 Nx else Nx H3) := by
  refine ⟨fun i m H => m = xs.length - i ∧ i ≤ xs.length ∧ Pv i H, ⟨xs.length, by simp, Nat.zero_le _, h0⟩, ?_⟩
  rintro i m H ⟨rfl, hi, p⟩
  have q := hl i H hi p
  by_cases hlt : i < xs.length
  · refine .inr ⟨⟨xs, xs[i], q, by simp [hlt]⟩, Pv (i + 1), fun H' p' => ⟨xs.length - (i + 1), by omega, rfl, hlt, p'⟩, fun x H' y => ?_⟩
    obtain ⟨e, y⟩ := y
    subst e
    exact hs i x _ (y xs q) p
  · have e : i = xs.length := by omega
    subst e
    exact .inl ⟨⟨xs, q, Nat.le_refl _⟩, hd H p⟩
theorem str_at {L : List Str} {u : Nat} {x : V} (h : (L.map V.str)[u]? = some x) : ∃ c, L[u]? = some c ∧ x = V.str c := by
  rw [List.getElem?_map] at h
  cases z : L[u]? with
  | none => rw [z] at h; cases h
  | some c => rw [z] at h; exact ⟨c, rfl, (Option.some.inj h).symm⟩
theorem set_in {w : World} {K : PySem.W.Frag} {D b : Addr} {H4 : Hp} {y0 y1 y2 : Option V} {L L1 T : List Str} {N : Hp → Prop} (eb : H4 b = some (.lst (L1.map V.str))) (eD : H4 D = some (SetXO w D L)) (hn : L.Nodup) (h1 : L ⊆ T) (h2 : L1 ⊆ T) (hT : T.length ≤ 63)
    (nx : ∀ H5 L', But D H4 H5 → H5 D = some (SetXO w D L') → L'.Nodup → (∀ x, x ∈ L' ↔ x ∈ L ∨ x ∈ L1) → N H5) : tMid (iList K (tVar 3)) (gName 2) tYes [2] (tLastS w D (tVar 2)) [y0, y1, y2, some (.ref b)] H4 N := by
  have hbD : b ≠ D := fun z => by rw [z, eD] at eb; cases eb
  refine ⟨_, rfl, b, rfl, ⟨_, SqL.of eb⟩, ?_⟩
  refine lcN_list (xs := L1.map V.str) (fun j H5 => ∃ L', But D H4 H5 ∧ H5 D = some (SetXO w D L') ∧ L'.Nodup ∧ ∀ x, x ∈ L' ↔ x ∈ L ∨ x ∈ L1.take j) ⟨L, But.refl _ _, eD, hn, fun x => by simp⟩ (fun j H5 hj p => ?_) (fun j x H5 hx p => ?_) fun H5 p => ?_
  · obtain ⟨L', bt, _⟩ := p
    exact SqL.of (bt _ _ hbD eb)
  · obtain ⟨L', bt, e5, n5, m5⟩ := p
    obtain ⟨y, hy, rfl⟩ := str_at hx
    have hlen : L'.length ≤ 63 := Nat.le_trans (n5.length_le_of_subset fun x m => by
      rcases (m5 x).mp m with z | z
      · exact h1 z
      · exact h2 (List.mem_of_mem_take z)) hT
    refine ⟨rfl, yes_turn ?_⟩
    refine ⟨_, rfl, y, L', rfl, e5, (by unfold scanBound; omega), _, bt.upd, upd_same, ?_, fun x => ?_⟩
    · by_cases hm : y ∈ L'
      · rw [if_pos hm]
        exact n5
      · rw [if_neg hm]
        exact List.nodup_cons.mpr ⟨hm, n5⟩
    · rw [List.take_add_one, hy, Option.toList_some, List.mem_append, List.mem_singleton, ← or_assoc, ← m5]
      by_cases hm : y ∈ L'
      · rw [if_pos hm]
        exact ⟨.inl, fun z => z.elim id fun e => e ▸ hm⟩
      · rw [if_neg hm, List.mem_cons]
        exact or_comm
  · obtain ⟨L', bt, e5, n5, m5⟩ := p
    rw [List.length_map, List.take_length] at m5
    exact nx H5 L' bt e5 n5 m5
theorem inV_str (x : Str) : ∀ L : List Str, inV (.str x) (L.map V.str) = decide (x ∈ L)
  | [] => by simp [inV]
  | y :: L => by
    have ih := inV_str x L
    unfold inV at ih ⊢
    rw [List.map_cons, List.any_cons, ih]
    by_cases e : y = x
    · subst e
      simp [eqV]
    · have e2 : ¬ x = y := fun z => e z.symm
      simp [eqV, e, e2]
theorem flat_strs (L : List Str) : (L.map V.str).all flatV = true := by
  rw [List.all_eq_true]
  intro v hv
  obtain ⟨s, _, rfl⟩ := List.mem_map.mp hv
  rfl
/-- sorted(set(t[k:])) -/
theorem sset {K : PySem.W.Frag} {w : World} {H H1 : Hp} {c : Addr} {xs : List V} {ys : List Str} {k : Nat} {σ : L2.St} {Q : VK} {t : Fm} (ex : H1 c = some (.tup xs)) (hk : 0 < k) (hx : 0 < xs.length) (e : xs.drop k = ys.map V.str) (hl : ys.length < 64) (g : Same H H1) (hF : Fv t = ys)
    (q : ∀ v H', Same H H' → arFr H' v t → (∀ b, v = .ref b → H b = none) → Q v H') : tNoPart σ H1 fun u H3 => rSlA K (.ref c) (some (k : Int)) u H3 fun x H4 => rSetX K w [x] H4 fun y H5 => rSortedX w [y] H5 Q := by
  refine post_sl ex hk hx fun p H2 g2 e2 => ?_
  rw [e] at e2
  refine ⟨p, ys, rfl, SqT.of e2, hl, fun S hS => ?_⟩
  refine ⟨S, _, rfl, upd_same, Nat.lt_of_le_of_lt ((once_nd ys).length_le_of_subset fun x m => once_mem.mp m) hl, fun zs p2 pm srt hp2 => ?_⟩
  have gg := (g.trans g2).trans (same_new (o := SetXO w S (once ys)) hS)
  exact q _ _ (gg.trans (same_new hp2)) ⟨p2, zs, rfl, upd_same, hF ▸ isFr_once pm srt⟩ fun b e => by cases e; exact gg.free hp2
theorem keyS_inr : ∀ ns : List Str, keyS (ns.map .inr) = ns
  | [] => rfl
  | n :: ns => congrArg (n :: ·) (keyS_inr ns)
theorem leaf_drop {h : List Key} {w : Str} {r : List Key} (ok : AtOk h) (eh : h = .inr w :: r) : (w ∈ (["label", "child"] : List Str) ∧ (h.map kV).drop 2 = (leafN h).map V.str ∧ 2 < h.length ∨ w ∉ (["label", "child"] : List Str) ∧ (h.map kV).drop 1 = (leafN h).map V.str) ∧ (leafN h).length ≤ 2 := by
  rcases ok with ⟨a, x, e⟩ | ⟨k, x, y, e⟩ | ⟨w', ns, e, hw, hn⟩
  · subst e
    cases eh
    exact ⟨.inl ⟨by decide +kernel, rfl, by show 2 < 3; decide⟩, by show 1 ≤ 2; decide⟩
  · subst e
    cases eh
    exact ⟨.inl ⟨by decide +kernel, rfl, by show 2 < 4; decide⟩, by show 2 ≤ 2; decide⟩
  · subst e
    cases eh
    have no : ∀ w ∈ (["true", "below", "same", "top", "in", "inside"] : List Str), w ∉ (["label", "child"] : List Str) ∧ ¬ (w = "label" ∨ w = "child") := by decide +kernel
    have e2 : leafN (.inr w :: ns.map .inr) = ns := by
      show (if w = "label" ∨ w = "child" then _ else _) = _
      rw [if_neg (no w hw).2, keyS_inr]
    rw [e2]
    refine ⟨.inr ⟨(no w hw).1, ?_⟩, hn⟩
    rw [List.map_cons, List.drop_succ_cons, List.drop_zero, List.map_map]
    rfl
theorem quant_of {t : Fm} {w : Str} {r : List Key} (ok : Ok t) (eh : t.hd = .inr w :: r) (hw : w ∈ WQ) : ∃ x f, t = .un [.inr w, .inr x] f := by
  cases t with
  | leaf h =>
    exfalso
    have no : ∀ w ∈ WQ, w ∉ (["true", "below", "same", "top", "in", "inside"] : List Str) ∧ w ≠ "label" ∧ w ≠ "child" := by decide +kernel
    have eh' : h = .inr w :: r := eh
    rcases ok with ⟨a, x, e⟩ | ⟨k, x, y, e⟩ | ⟨w', ns, e, hw', hn⟩
    · rw [e] at eh'
      cases eh'
      exact (no _ hw).2.1 rfl
    · rw [e] at eh'
      cases eh'
      exact (no _ hw).2.2 rfl
    · rw [e] at eh'
      cases eh'
      exact (no _ hw).1 hw'
  | un h f =>
    have eh' : h = .inr w :: r := eh
    rcases ok.1 with e | ⟨q, x, e, _⟩
    · rw [e] at eh'
      cases eh'
      exact absurd hw (by decide +kernel)
    · rw [e] at eh'
      cases eh'
      exact ⟨x, f, by rw [e]⟩
  | bin h f g =>
    exfalso
    have eh' : h = .inr w :: r := eh
    have no : ∀ w ∈ WQ, w ∉ WB := by decide +kernel
    obtain ⟨w', e, hw'⟩ := ok.1
    rw [e] at eh'
    cases eh'
    exact no _ hw hw'
theorem fv_kids {t : Fm} {w : Str} {r : List Key} (ok : Ok t) (eh : t.hd = .inr w :: r) (hw : w ∉ WQ) (hk : kids t ≠ []) : Fv t = (kids t).flatMap Fv := by
  cases t with
  | leaf h => exact absurd rfl hk
  | un h f =>
    have eh' : h = .inr w :: r := eh
    rcases ok.1 with e | ⟨q, x, e, hq⟩
    · subst e
      simp [Fv, kids]
    · rw [e] at eh'
      cases eh'
      exact absurd hq hw
  | bin h f g => simp [Fv, kids]
abbrev sFA : Stmt := top 22
def NFA : List Str := ["now", "inside", "name", "names"]
theorem scFA : FnScope NFA ["now", "inside"] (defScope sFA) := ⟨rfl, rfl, rfl, by decide +kernel, rfl, by decide +kernel, by decide +kernel⟩
section
variable {P : Program} {w : World} {K : PySem.W.Frag} {mg : Str → Option Value} {base : Heap}
theorem ok_fa {f aQ : Addr} {fd : FuncData} {k : Nat} (F : Fun K "_free_above" "_free_above" sFA f fd) (mQ : mg "QUANTIFIERS" = some (.ref aQ)) (kQ : KTup K aQ (WQ.map V.str)) (mso : mg "sorted" = none) (mse : mg "set" = none) :
    FnOk P w K mg base CX0 (k + 1) f fd ["now", "inside"] (spAb frM) := by
  refine F.ok scFA (fun vs H Q E h => ?_) (fun cdv A outer s H vs Q E hr h => ?_)
  · obtain ⟨c, s, p, xs, rfl, _⟩ := h
    rfl
  obtain ⟨c, t, p, xs, rfl, hR, ho, hc, hn, hp, hx, hgk, q, _⟩ := h
  refine ⟨_, pss_cons (ps_if (pt_cmpR op_in_seq (pe_ix ix_tup (pv 0) pe_int (fun _ _ => rfl)) (pe_glob (by rfl) mQ (v := .ref aQ) rfl) (by with_unfolding_all rfl))
      (pss_one (ps_ret (pe_lc (own := [("name", 2)]) (g := gName 2) (tt := tTest (tOp rNe (tVar 2) (tOp (rIxT K) (tVar 0) (tC (.int 1))))) (te := tVar 2) rfl scFA.nd (pi_list (pe_ix ix_list (pv 1) pe_int (fun _ _ => rfl)))
          (blkOk_by (own := [("name", 2)]) (N := NFA) (sc := defScope sFA) (by decide +kernel)) (fun _ _ _ _ _ => pg_name (i := 2) scFA.nd rfl (Or.inl rfl)) (fun _ _ _ _ _ => pts_one (pt_cmpR op_ne (pv 2) (pe_ix ix_tup (pv 0) pe_int (fun _ _ => rfl)) (nomark _)))
          (fun _ _ _ _ _ => pv 2)))) pss_nil)
    (pss_cons (ps_if (pt_truth (pv 1) (fun _ => rfl))
      (pss_one (ps_ret (pe_callB (cr_sortedX rfl) (by rfl) mso (by decide +kernel) (pa_cons
        (pe_scN (own := [("names", 3), ("name", 2)]) (ws' := [2]) (g := gName 3) (tt := tYes) (tl := fun D => tMid (iList K (tVar 3)) (gName 2) tYes [2] (tLastS w D (tVar 2))) rfl scFA.nd (pi_list (pv 1))
          (blkOk_by (own := [("names", 3), ("name", 2)]) (N := NFA) (sc := defScope sFA) (by decide +kernel)) (by decide) (fun g h => by cases h; rfl) (fun _ _ _ _ _ => pg_name (i := 3) scFA.nd rfl (Or.inl rfl)) (fun _ _ _ _ _ => pts_nil)
          (fun _ _ _ _ _ D => pb_mid rfl (fun g h => nomatch h) rfl rfl (fun _ _ => rfl) (pi_list (pv 3)) (pg_name (i := 2) scFA.nd rfl (Or.inl rfl)) pts_nil (by decide) (pb_last rfl rfl (pv 2)))) pa_nil)))) pss_nil)
    (pss_cons (ps_if (pt_cmpR op_in_seq (pe_ix ix_tup (pv 0) pe_int (fun _ _ => rfl)) (pe_tup (pa_cons pe_str (pa_cons pe_str pa_nil))) (by with_unfolding_all rfl))
      (pss_one (ps_ret (pe_callB (cr_sortedX rfl) (by rfl) mso (by decide +kernel) (pa_cons (pe_callTy (cr_setX rfl) (by rfl) mse (by decide +kernel) (pa_cons (pe_slice sl_tupA (pv 0) (po_some pe_int) po_none) pa_nil)) pa_nil)))) pss_nil)
    (pss_one (ps_ret (pe_callB (cr_sortedX rfl) (by rfl) mso (by decide +kernel) (pa_cons (pe_callTy (cr_setX rfl) (by rfl) mse (by decide +kernel) (pa_cons (pe_slice sl_tupA (pv 0) (po_some pe_int) po_none) pa_nil)) pa_nil)))))), ?_⟩
  obtain ⟨cs, ex, al⟩ := hR.tup
  obtain ⟨wd, r, eh, har, hop, hm, hl4⟩ := head_of ho
  have hpos : 0 < (t.hd.map kV ++ cs.map V.ref).length := by rw [eh]; simp
  have hn' : nn t ≤ 63 := hn
  have h0 : (t.hd.map kV ++ cs.map V.ref)[0]? = some (.str wd) := by rw [eh]; rfl
  refine ⟨_, rfl, c, _, 0, _, rfl, rfl, SqT.of ex, atI_nat (j := 0) h0, aQ, _, rfl, .inr (kQ.sq H), rfl, flat_strs _, _, rfl, ?_⟩
  rw [inV_str]
  have xl := hx.len
  by_cases hq : wd ∈ WQ
  · rw [decide_eq_true hq]
    refine iteT' ?_
    obtain ⟨x, fm, rfl⟩ := quant_of ho eh hq
    obtain ⟨v0, rfl⟩ := List.length_eq_one_iff.mp (xl : xs.length = 1)
    obtain ⟨⟨p0, L0, rfl, e0, fr0⟩, _⟩ := hx
    refine ⟨_, rfl, p, _, 0, _, rfl, rfl, SqL.of hp, rfl, p0, rfl, ⟨_, SqL.of e0⟩, fun D hD => ?_⟩
    have hl0 : L0.length ≤ 63 := Nat.le_trans fr0.len (Nat.le_trans (fv_le fm) hn')
    refine lc_list (xs := L0.map V.str) (fun j H1 => Same H H1 ∧ H1 D = some (.lst (((L0.take j).filter fun y => decide (y ≠ x)).map V.str))) ⟨same_new hD, upd_same⟩ (fun j H1 hj pv => SqL.of (pv.1 _ _ e0)) (fun j v H1 hv pv => ?_) fun H1 pv => ?_
    · obtain ⟨g1, eD⟩ := pv
      obtain ⟨y, hy, rfl⟩ := str_at hv
      have hlen : ((L0.take j).filter fun y => decide (y ≠ x)).length ≤ 63 := Nat.le_trans (List.length_filter_le _ _) (Nat.le_trans (List.length_take_le' _ _) hl0)
      have hx1 : ((Fm.un [.inr wd, .inr x] fm).hd.map kV ++ cs.map V.ref)[1]? = some (.str x) := rfl
      refine ⟨rfl, _, rfl, _, rfl, c, _, 1, _, rfl, rfl, SqT.of (g1 _ _ ex), atI_nat (j := 1) hx1, rfl, _, rfl, ?_⟩
      by_cases e : y = x
      · subst e
        rw [decide_eq_true rfl]
        refine iteNT ⟨g1, ?_⟩
        rw [eD, List.take_add_one, hy, Option.toList_some, List.filter_append]
        simp
      · rw [decide_eq_false (fun z => e (by injection z))]
        refine iteNF ⟨_, rfl, _, eD, small' (by rw [List.length_map]; omega), same_fresh hD g1, ?_⟩
        rw [upd_same, List.take_add_one, hy, Option.toList_some, List.filter_append, List.map_append]
        have e1 : [y].filter (fun y => decide (y ≠ x)) = [y] := by rw [List.filter_cons, if_pos (decide_eq_true e), List.filter_nil]
        rw [e1]
        rfl
    · obtain ⟨g1, eD⟩ := pv
      rw [List.length_map, List.take_length] at eD
      exact q True.intro _ _ g1 ⟨D, _, rfl, eD, fr0.filter _⟩ fun b e => by cases e; exact hD
  · rw [decide_eq_false hq]
    refine iteF' ?_
    by_cases hk0 : kids t = []
    · have hxs : xs = [] := List.length_eq_zero_iff.mp (by rw [xl, hk0]; rfl)
      subst hxs
      have hcs : cs = [] := List.length_eq_zero_iff.mp (by rw [al.len, hk0]; rfl)
      subst hcs
      refine ⟨_, rfl, _, .inl ⟨_, SqL.of hp, rfl⟩, iteF' ?_⟩
      refine ⟨_, rfl, c, _, 0, _, rfl, rfl, SqT.of ex, atI_nat (j := 0) h0, (by show 2 ≤ sizeLine; exact small (by decide)), fun t0 ht0 => ?_⟩
      have g1 := same_new (o := .tup [.str "label", .str "child"]) ht0
      refine ⟨t0, (["label", "child"] : List Str).map V.str, rfl, .inr (SqT.of upd_same), rfl, rfl, _, rfl, ?_⟩
      have hd0 : t.hd.map kV ++ ([] : List Addr).map V.ref = t.hd.map kV := by simp
      obtain ⟨hh, rfl⟩ : ∃ hh, t = .leaf hh := by
        cases t with
        | leaf hh => exact ⟨hh, rfl⟩
        | un _ _ => cases hk0
        | bin _ _ _ => cases hk0
      obtain ⟨lc, l2⟩ := leaf_drop (show AtOk hh from ho) (show hh = _ from eh)
      have g1' : Same H (upd H t0 (.tup [.str "label", .str "child"])) := g1
      have ex1 := g1 _ _ ex
      rw [hd0] at ex1 hpos
      rw [inV_str]
      rcases lc with ⟨lm, ld, ll⟩ | ⟨lm, ld⟩
      · rw [decide_eq_true lm]
        refine iteT' ⟨_, rfl, _, rfl, ?_⟩
        exact sset (k := 2) ex1 (by decide) hpos ld (by omega) g1 rfl fun v H' g a b => q True.intro v H' g a b
      · rw [decide_eq_false lm]
        refine iteF' ⟨_, rfl, _, rfl, ?_⟩
        exact sset (k := 1) ex1 (by decide) hpos ld (by omega) g1 rfl fun v H' g a b => q True.intro v H' g a b
    · have hxs : xs ≠ [] := fun z => by rw [z] at xl; exact hk0 (List.length_eq_zero_iff.mp xl.symm)
      have hne : (!xs.isEmpty) = true := by
        cases xs with
        | nil => exact absurd rfl hxs
        | cons _ _ => rfl
      refine ⟨_, rfl, _, .inl ⟨_, SqL.of hp, rfl⟩, ?_⟩
      rw [hne]
      refine iteT' ?_
      have hfk := fv_kids ho eh hq hk0
      have hlt : ((kids t).flatMap Fv).length ≤ 63 := by
        rw [← hfk]
        exact Nat.le_trans (fv_le t) hn'
      refine ⟨_, rfl, p, rfl, ⟨_, SqL.of hp⟩, fun D hD => ?_⟩
      have hpD : p ≠ D := ne_of_none hp hD
      have b0 : Same H (upd H D (SetXO w D [])) := same_new hD
      refine lcN_list (xs := xs) (fun i H1 => ∃ L, Same H H1 ∧ H1 D = some (SetXO w D L) ∧ L.Nodup ∧ ∀ x, x ∈ L ↔ x ∈ ((kids t).take i).flatMap Fv) ⟨[], b0, upd_same, List.nodup_nil, fun x => by simp⟩ (fun i H1 hi pv => ?_) (fun i v H1 hv pv => ?_) fun H1 pv => ?_
      · obtain ⟨L, b, _⟩ := pv
        exact SqL.of (b _ _ hp)
      · obtain ⟨L, b, eD, nd, mm⟩ := pv
        have hi := (List.getElem?_eq_some_iff.mp hv).1
        obtain ⟨u, hu⟩ : ∃ u, (kids t)[i]? = some u := ⟨_, List.getElem?_eq_getElem (by omega)⟩
        obtain ⟨v', hv', a'⟩ := hx.get hu
        obtain rfl : v = v' := Option.some.inj (hv.symm.trans hv')
        obtain ⟨p1, L1, rfl, e1, f1⟩ := a'
        refine ⟨rfl, yes_turn ?_⟩
        refine set_in (T := (kids t).flatMap Fv) (b _ _ e1) eD nd (fun x m => ?_) (fun x m => List.mem_flatMap.mpr ⟨u, List.mem_of_getElem? hu, (f1.m x).mp m⟩) hlt fun H5 L' b5 e5 n5 m5 => ⟨L', But.same0 hD b b5, e5, n5, fun x => ?_⟩
        · obtain ⟨z, hz1, hz2⟩ := List.mem_flatMap.mp ((mm x).mp m)
          exact List.mem_flatMap.mpr ⟨z, List.mem_of_mem_take hz1, hz2⟩
        · rw [m5, mm, f1.m, List.take_add_one, hu, Option.toList_some, List.flatMap_append, List.mem_append]
          simp
      · obtain ⟨L, b, eD, nd, mm⟩ := pv
        rw [xl, List.take_length] at mm
        have hL : L.length ≤ 63 := Nat.le_trans (nd.length_le_of_subset fun x m => (mm x).mp m) hlt
        refine ⟨D, L, rfl, eD, by omega, fun zs p2 pm srt hp2 => ?_⟩
        exact q True.intro _ _ (b.trans (same_new hp2)) ⟨p2, zs, rfl, upd_same, isFr_set pm srt nd fun x => by rw [mm, hfk]⟩ fun b' e => by cases e; exact b.free hp2
end
end K03

set_option Elab.async false
set_option linter.all false
set_option maxRecDepth 100000
set_option maxHeartbeats 2000000
/-! sorted(xs, key=f) where f gives texts -/
namespace XK
open PySem PySem.Spec PyProof.Rows SrtO
/-! ### the order -/
def ltS (p q : Keyed) : Bool := decide ((strOf p.1).cps.toList < (strOf q.1).cps.toList)
def ltT {α : Type} (k : α → Str) (p q : α) : Bool := decide ((k p).cps.toList < (k q).cps.toList)
theorem swoT {α : Type} (k : α → Str) : Swo (ltT k) where
  asym := fun x y h => by
    unfold ltT at *
    rw [decide_eq_true_eq] at h
    rw [decide_eq_false_iff_not]
    exact fun z => List.lt_irrefl _ (List.lt_trans h z)
  tr := fun x y z h1 h2 => by
    unfold ltT at *
    rw [decide_eq_false_iff_not] at *
    exact List.not_lt.mpr (List.le_trans (List.not_lt.mp h1) (List.not_lt.mp h2))
theorem swoS : Swo ltS := swoT (fun p : Keyed => strOf p.1)
theorem cmpS {prog : Program} {w : World} {A : Around} {s : Shared} : Cmp prog w A s oneType' (fun p => ∃ x t, p.1 = Value.str x t) ltS := by
  rintro ⟨_, p2⟩ ⟨_, q2⟩ ⟨x, t, rfl⟩ ⟨y, u, rfl⟩
  rw [keyLt'_oneType]
  exact oneLt_str ⟨rfl, rfl⟩
/-- not less either way: the same -/
theorem text_eq {x y : Str} (h1 : ¬ x.cps.toList < y.cps.toList) (h2 : ¬ y.cps.toList < x.cps.toList) : x = y := by
  have e := List.le_antisymm (List.not_lt.mp h2) (List.not_lt.mp h1)
  cases x; cases y
  simp only [Str.mk.injEq]
  exact Array.toList_inj.mp e
/-- the address of an object -/
def bkA : Value → Addr
  | .ref a => a
  | _ => 0
/-- ys: xs, sorted by the texts k of its items, stable -/
structure IsSort {α : Type} (k : α → Str) (ys xs : List α) : Prop where
  rise : ys.Pairwise fun x y => ¬ (k y).cps.toList < (k x).cps.toList
  perm : ys.Perm xs
  cls : ∀ x : Str, ys.filter (fun z => decide (k z = x)) = xs.filter (fun z => decide (k z = x))
theorem srt_unique {α : Type} {k : α → Str} : ∀ (l l' : List α), l.Pairwise (fun x y => ¬ (k y).cps.toList < (k x).cps.toList) → l'.Pairwise (fun x y => ¬ (k y).cps.toList < (k x).cps.toList) → l.Perm l' →
    (∀ x : Str, l.filter (fun z => decide (k z = x)) = l'.filter (fun z => decide (k z = x))) → l = l'
  | [], l', _, _, p, _ => by
    have := p.length_eq
    cases l' with
    | nil => rfl
    | cons _ _ => simp at this
  | a :: r, [], _, _, p, _ => by
    have := p.length_eq
    simp at this
  | a :: r, b :: r', h1, h2, p, hc => by
    have hab : k b = k a := by
      have mb : b ∈ a :: r := p.mem_iff.mpr List.mem_cons_self
      have ma : a ∈ b :: r' := p.mem_iff.mp List.mem_cons_self
      refine text_eq ?_ ?_
      · rcases List.mem_cons.mp mb with e | m
        · rw [e]; exact List.lt_irrefl _
        · exact (List.pairwise_cons.mp h1).1 b m
      · rcases List.mem_cons.mp ma with e | m
        · rw [e]; exact List.lt_irrefl _
        · exact (List.pairwise_cons.mp h2).1 a m
    have q := hc (k a)
    rw [List.filter_cons_of_pos (by simp), List.filter_cons_of_pos (by simp [hab])] at q
    obtain ⟨rfl, q2⟩ := List.cons.inj q
    refine congrArg _ (srt_unique r r' (List.pairwise_cons.mp h1).2 (List.pairwise_cons.mp h2).2 (List.Perm.cons_inv p) fun x => ?_)
    have qx := hc x
    by_cases hx : k a = x
    · rw [List.filter_cons_of_pos (by simp [hx]), List.filter_cons_of_pos (by simp [hx])] at qx
      exact (List.cons.inj qx).2
    · rw [List.filter_cons_of_neg (by simp [hx]), List.filter_cons_of_neg (by simp [hx])] at qx
      exact qx
theorem IsSort.unique {α : Type} {k : α → Str} {ys zs xs : List α} (h1 : IsSort k ys xs) (h2 : IsSort k zs xs) : ys = zs :=
  srt_unique ys zs h1.rise h2.rise (h1.perm.trans h2.perm.symm) fun x => (h1.cls x).trans (h2.cls x).symm
theorem IsSort.map {α β : Type} {k : α → Str} {k' : β → Str} (f : α → β) {ys xs : List α} (h : IsSort k ys xs) (e : ∀ x ∈ xs, k' (f x) = k x) : IsSort k' (ys.map f) (xs.map f) := by
  have ey : ∀ y ∈ ys, k' (f y) = k y := fun y hy => e y (h.perm.mem_iff.mp hy)
  refine ⟨?_, h.perm.map f, fun x => ?_⟩
  · refine List.pairwise_map.mpr (List.Pairwise.imp_of_mem (fun {a b} ha hb q => ?_) h.rise)
    rw [ey a ha, ey b hb]
    exact q
  · rw [List.filter_map, List.filter_map]
    have f1 : ys.filter ((fun z => decide (k' z = x)) ∘ f) = ys.filter (fun z => decide (k z = x)) := List.filter_congr fun z hz => by
      show decide (k' (f z) = x) = _
      rw [ey z hz]
    have f2 : xs.filter ((fun z => decide (k' z = x)) ∘ f) = xs.filter (fun z => decide (k z = x)) := List.filter_congr fun z hz => by
      show decide (k' (f z) = x) = _
      rw [e z hz]
    rw [f1, f2, h.cls x]
/-- from what the sort says of its pairs -/
theorem isSort_of {arr : List Keyed} {m : List Keyed} (h1 : Srtd ltS arr) (h2 : Stb ltS arr m) : IsSort (fun p : Keyed => strOf p.1) arr m := by
  refine ⟨h1.imp fun {a b} q => ?_, h2.perm, fun x => ?_⟩
  · unfold ltS at q
    exact of_decide_eq_false q
  · have q := h2.cls (Value.str x 0, Value.none)
    have f1 : ∀ l : List Keyed, l.filter (eqv ltS (Value.str x 0, Value.none)) = l.filter (fun z => decide (strOf z.1 = x)) := fun l => List.filter_congr fun z _ => by
      unfold eqv ltS
      show (!decide (x.cps.toList < (strOf z.1).cps.toList) && !decide ((strOf z.1).cps.toList < x.cps.toList)) = _
      by_cases hz : strOf z.1 = x
      · rw [hz]
        simp [List.lt_irrefl]
      · rw [decide_eq_false hz]
        by_cases c1 : x.cps.toList < (strOf z.1).cps.toList
        · simp [c1]
        · by_cases c2 : (strOf z.1).cps.toList < x.cps.toList
          · simp [c2]
          · exact absurd (text_eq c2 c1) hz
    rw [f1, f1] at q
    exact q
section
variable {prog : Program} {w : World} {A : Around} {E : Value → Shared → Prop} {s : Shared} {a kS : Addr} {keys : Array Value} {vs : List Value} {ks : List Str} {e e1 : Nat} {P : PySem.Fin → Shared → Prop}
theorem tailS {st : SortSt} (hk : s.heap.get? kS = some (seqObj "list" keys e)) (ha : s.heap.get? a = some (seqObj "list" #[] e1)) (hka : kS ≠ a) (hz1 : keys.size ≤ sizeLine) (hz2 : (arrOf st).size ≤ sizeLine) (hfl : failedOf st = none)
    (h : ∀ h' c, h'.get? a = some (seqObj "list" ((arrOf st).map (·.2)) c) → (∀ b o, b ≠ kS → b ≠ a → s.heap.get? b = some o → h'.get? b = some o) → P (.done (.ret .none)) { s with heap := h' }) :
    wpAny (model prog w) A (ksk_tail a false e1 (.ref kS) st) P E s := by
  have s1 := Heap.SameBut.update s.heap kS (Obj.mapSeq fun _ => (#[] : Array Value))
  have na1 : (s.heap.update kS (Obj.mapSeq fun _ => (#[] : Array Value))).get? a = some (seqObj "list" #[] e1) := (s1.2 a hka.symm).trans ha
  have s2 := Heap.SameBut.update (s.heap.update kS (Obj.mapSeq fun _ => (#[] : Array Value))) a (Obj.mapSeq fun _ => (arrOf st).map (·.2))
  obtain ⟨c2, hc2⟩ : ∃ c2, ((s.heap.update kS (Obj.mapSeq fun _ => (#[] : Array Value))).update a (Obj.mapSeq fun _ => (arrOf st).map (·.2))).get? a = some (seqObj "list" ((arrOf st).map (·.2)) c2) :=
    ⟨_, get?_update_seq na1 fun _ => (arrOf st).map (·.2)⟩
  unfold ksk_tail
  try dsimp only
  refine wpAny_bind (listUpdate_at hk rfl ?_ hz1 (Nat.zero_le _))
  refine wpAny_bind (wpAny_letGo ?_)
  refine wpAny_bind (seqEpoch_at na1 rfl ?_)
  refine wpAny_bind (listUpdate_at na1 rfl ?_ (Nat.zero_le _) (by simp only [Bool.false_eq_true, if_false, Array.size_map]; omega))
  rw [hfl]
  simp only [bne_self_eq_false, Bool.false_eq_true, if_false]
  exact wpAny_pure (h _ c2 hc2 fun b o h1 h2 q => (s2.2 b h2).trans ((s1.2 b h1).trans q))
theorem endS (hk : s.heap.get? kS = some (seqObj "list" keys e)) (ha : s.heap.get? a = some (seqObj "list" #[] e1)) (hka : kS ≠ a) (hz : vs.length ≤ sizeLine) (hS : StrsAre keys.toList ks) (hlen : ks.length = vs.length)
    (h : ∀ h' c (arr : List Keyed), IsSort (fun p : Keyed => strOf p.1) arr (keys.toList.zip vs) → h'.get? a = some (seqObj "list" (arr.map (·.2)).toArray c) → (∀ b o, b ≠ kS → b ≠ a → s.heap.get? b = some o → h'.get? b = some o) → P (.done (.ret .none)) { s with heap := h' }) :
    wpAny (model prog w) A (ksk_end a false vs.toArray e1 (.ref kS) keys) P E s := by
  have hks : keys.size = vs.length := by
    have q := hS.len_eq
    rw [Array.length_toList] at q
    omega
  have hzt : (keys.zip vs.toArray).toList = keys.toList.zip vs := ksk_zip keys vs
  have hzs : (keys.zip vs.toArray).size = vs.length := by rw [← Array.length_toList, hzt, List.length_zip, Array.length_toList, hks, Nat.min_self]
  have fin : ∀ st : SortSt, IsSort (fun p : Keyed => strOf p.1) (arrOf st).toList (keys.toList.zip vs) → failedOf st = none → wpAny (model prog w) A (ksk_tail a false e1 (.ref kS) st) P E s := fun st hs hf => by
    have hl : (arrOf st).size = vs.length := by
      rw [← Array.length_toList, hs.perm.length_eq, List.length_zip, Array.length_toList, hks, Nat.min_self]
    refine tailS hk ha hka (by omega) (by omega) hf fun h' c g1 g2 => h h' c _ hs ?_ g2
    rw [g1]
    have e : ((arrOf st).toList.map (·.2)).toArray = (arrOf st).map (·.2) := by
      apply Array.ext'
      simp
    rw [e]
  unfold ksk_end
  simp only [Bool.false_eq_true, if_false]
  by_cases h2 : vs.toArray.size < 2
  · rw [if_pos h2, if_pos h2]
    refine wpAny_bind (wpAny_pure ?_)
    rw [StateT.run_pure]
    refine wpAny_bind (wpAny_pure ?_)
    try dsimp only
    refine fin (SortSt.mk' general' (keys.zip vs.toArray) #[] 7 none) ?_ rfl
    have q : (arrOf (SortSt.mk' general' (keys.zip vs.toArray) #[] 7 none)).toList = keys.toList.zip vs := hzt
    rw [q]
    refine ⟨?_, List.Perm.refl _, fun x => rfl⟩
    rw [List.size_toArray] at h2
    have hl : (keys.toList.zip vs).length < 2 := by rw [List.length_zip, Array.length_toList, hks, Nat.min_self]; exact h2
    match keys.toList.zip vs, hl with
    | [], _ => exact List.Pairwise.nil
    | [v], _ => exact List.pairwise_singleton _ _
    | _ :: _ :: l, hl => exact absurd hl (by rw [List.length_cons, List.length_cons]; omega)
  · rw [if_neg h2, if_neg h2]
    rw [List.size_toArray] at h2
    have hkk : keyKind' keys = pure oneType' := by
      have hl : 2 ≤ keys.toList.length := by rw [Array.length_toList]; omega
      have e0 : keys.toList.toArray = keys := by simp
      rw [← e0]
      revert hS hl
      generalize keys.toList = kl
      intro hS hl
      match kl, hl, hS with
      | v1 :: v2 :: rest, _, hS => exact keyKind_strs hS
      | [v], hl, _ => exact absurd hl (by simp)
      | [], hl, _ => exact absurd hl (by simp)
    rw [hkk]
    refine wpAny_bind (wpAny_pure ?_)
    refine wpAny_bind (wpAny_mono (wpS_sortO (P := fun p : Keyed => ∃ x t, p.1 = Value.str x t) (lt := ltS) (st0 := SortSt.mk' oneType' (keys.zip vs.toArray) #[] 7 none)
      (Q := fun _ st' => IsSort (fun p : Keyed => strOf p.1) (arrOf st').toList (keys.toList.zip vs) ∧ failedOf st' = none) swoS cmpS rfl (fun p hp => ?_) rfl rfl fun st' a1 a2 a3 => ⟨?_, a3⟩) ?_ fun _ _ e => e)
    · have hp' : p ∈ keys.toList.zip vs := by
        rw [← hzt]
        exact hp
      exact hS.all _ (List.of_mem_zip hp').1
    · have q : (arrOf (SortSt.mk' oneType' (keys.zip vs.toArray) #[] 7 none)).toList = keys.toList.zip vs := hzt
      rw [q] at a2
      exact isSort_of a1 a2
    · rintro ⟨⟨⟩, st'⟩ s' ⟨rfl, hs, hf⟩
      exact fin st' hs hf
end
end XK

namespace L2
open PySem PySem.Spec PyProof.Rows SrtO XK
/-- calls of f, from below X: on one argument, as sp tells; P0 stands by itself through the calls -/
def KeyOk (X : Cx) (n : Nat) (P0 : List (Addr × Obj)) (f : Value) (sp : V → Hp → VK → Prop) : Prop :=
  ∀ (A : Around) (pins : List (Addr × Obj)) (s : Shared) (σ : St) (H : Hp) (x : V) (u : Value) (Q : VK), Sub X n A → Inv X pins σ H s → (∀ p ∈ P0, p ∈ pins) → RelV x u → sp x H Q →
    wpAny (model X.prog X.w) A (call f [u]) (EP X pins σ Q) (fun _ _ => False) s
section
variable {X : Cx} {pins : List (Addr × Obj)} {σ : St} {H : Hp} {s : Shared}
/-- a def as the key -/
theorem keyOk_fn {k : Nat} {f : Addr} {fd : FuncData} {ps : List Str} {sp : Sp} (F : FnOk X.prog X.w X.K X.mg X.base CX0 k f fd ps sp) (hb : Binds X.K fd ps []) : KeyOk X k [] (.ref f) (fun x H Q => sp [x] H Q E0) := by
  intro A pins s σ H x u Q sb I _ rx h
  have e0 : Env0 X.prog X.w X.K X.mg X.base A X.stack s H := by
    have e := I.env0
    exact ⟨by rw [sb.fr]; exact e.frames, e.mod, e.bs, e.bsz, e.funs, e.frf, e.hok, e.bare⟩
  have hl := F.len _ _ _ _ h
  refine wpAny_call (codeAny_mono (F.run A X.stack s H ⟨[u], []⟩ [u] [x] Q E0 sb.room e0 (by
    have := hb s [u] I.kIn (by simpa using hl)
    simpa using this) (.cons rx .nil) h) fun r s' hq => ?_)
  cases r with
  | error e => exact (show False from hq).elim
  | ok fl =>
    cases fl with
    | ret u => exact I.after hq
    | next => exact False.elim hq
    | brk => exact False.elim hq
    | cont => exact False.elim hq
/-- what is asked: the list of objects as, a text κ for each, and what holds between the calls -/
def rSortBy (K : PySem.W.Frag) (sp : V → Hp → VK → Prop) (l : Addr) (H : Hp) (Q : VK) : Prop := ∃ (as : List Addr) (κ : Addr → Str) (Pv : Nat → Hp → Prop), SqL K H l (as.map V.ref) ∧ Pv 0 H ∧
  (∀ (i : Nat) (a : Addr) (H' : Hp), as[i]? = some a → Pv i H' → sp (.ref a) H' fun v H2 => v = .str (κ a) ∧ Pv (i + 1) H2) ∧
  ∀ (H' : Hp) (ys : List Addr) (p : Addr), Pv as.length H' → IsSort κ ys as → H' p = none → H p = none → Q (.ref p) (upd H' p (.lst (ys.map V.ref)))
theorem vals_refsS : ∀ {as : List Addr} {us : List Value}, Vals (as.map V.ref) us → us = as.map Value.ref
  | [], _, .nil => rfl
  | a :: as, _, .cons r t => by
    have e : _ = Value.ref a := r
    rw [e, vals_refsS t]
    rfl
theorem refs_vals : ∀ (as : List Addr), Vals (as.map V.ref) (as.map Value.ref)
  | [] => .nil
  | a :: as => .cons rfl (refs_vals as)
theorem strs_snoc {x : Str} {t : Tok} : ∀ {vs : List Value} {ns : List Str}, StrsAre vs ns → StrsAre (vs ++ [.str x t]) (ns ++ [x])
  | _, _, .nil => .cons x t .nil
  | _, _, .cons n t' h => .cons n t' (strs_snoc h)
/-- an object of ours that wasn't tracked is tracked from now on -/
theorem Inv.adopt {a : Addr} {o : HO} (I : Inv X pins σ H s) (f : FpOk X pins H a) (hx : a ∉ X.ex) (new : ObjOk X.prog X.w (upd H a o) s.heap a o) : Inv X pins σ (upd H a o) s := by
  obtain ⟨f0, f1, f2, f3, f4, f5⟩ := f
  have h3 : X.s_0.heap.objs.size ≤ a := f3.resolve_left hx
  have ne0 : ∀ b ob, X.s_0.heap.get? b = some ob → b ≠ a := fun b ob e z => by
    rw [z] at e
    exact Nat.lt_irrefl _ (Nat.lt_of_lt_of_le (Heap.lt_size e) h3)
  have nes : ∀ b u, H b = some u → b ≠ a := fun b u e z => by rw [z, f0] at e; cases e
  have U := I.base
  refine ⟨I.ok, I.os, I.bare, ⟨U.keep, U.slot, fun b ob q n hb => ?_, U.there, fun b xs q => ?_, fun b ob u q => ?_, fun b ps q => ?_⟩, I.loc, I.cell, ?_, fun x c e => ?_, fun p hp => ?_, fun b u e => ?_, I.len⟩
  · rw [upd_ne (ne0 b ob q)]; exact U.free b ob q n hb
  · have z := U.tups b xs q
    rw [upd_ne (nes b _ z)]; exact z
  · have z := U.frzs b ob u q
    rw [upd_ne (nes b _ z)]; exact z
  · obtain ⟨more, z⟩ := U.tbls b ps q
    exact ⟨more, by rw [upd_ne (nes b _ z)]; exact z⟩
  · rw [upd_ne (Ne.symm f1)]; exact I.free
  · rw [upd_ne (f4 x c e)]; exact I.freeC x c e
  · obtain ⟨z1, z2, z3, z4, z5⟩ := I.pin p hp
    refine ⟨z1, ?_, z3, z4, z5⟩
    rw [upd_ne (f5 p hp)]; exact z2
  · by_cases hb : b = a
    · subst hb
      rw [upd_same] at e
      cases e
      exact new
    · rw [upd_ne hb] at e
      exact (I.hok b u e).stay (fun c v _ q => q) (fun c q => by rw [upd_ne (nes c _ q)]; exact q) fun c xs q => by rw [upd_ne (nes c _ q)]; exact q
theorem sortBy_run {n : Nat} {P0 : List (Addr × Obj)} {q l : Addr} {sp : V → Hp → VK → Prop} {Q : VK} {E : Value → Shared → Prop} (hf : KeyOk X n P0 (.ref q) sp) (sb : Sub X (n + 2) X.A) (hex : X.ex = []) (I : Inv X pins σ H s) (hP : ∀ p ∈ P0, p ∈ pins) (h : rSortBy X.K sp l H Q) :
    wpAny (model X.prog X.w) X.A (call (.builtin "sorted") [.ref l] [(Str.ofString "key", .ref q)]) (EP X pins σ Q) E s := by
  obtain ⟨as, κ, Pv, hs, p0, turn, fin⟩ := h
  obtain ⟨its, rv, hl, hz⟩ := I.list hs
  obtain rfl := vals_refsS rv
  rw [List.length_map] at hz
  have hzv : (as.map Value.ref).length ≤ sizeLine := by rw [List.length_map]; exact hz
  refine call_function_entry_kw kind_sorted plain_sorted entry_sorted (ksk_s1 _ _) ?_
  unfold Builtin.«sorted»
  refine wpAny_bind (m := checkCount "sorted" 1 1 _) (wpAny_pure ?_)
  refine wpAny_bind (collect_list hl.isList ?_ hzv)
  refine wpAny_bind (wpAny_newList ?_ hzv)
  have hsz : ((s.heap.push (seqObj "list" #[] 0)).update s.heap.objs.size (Obj.mapSeq (· ++ (as.map Value.ref).toArray))).objs.size = s.heap.objs.size + 1 := by
    rw [Heap.size_update, size_push']
  have hoL : (((s.heap.push (seqObj "list" #[] 0)).update s.heap.objs.size (Obj.mapSeq (· ++ (as.map Value.ref).toArray))).push (seqObj "list" (as.map Value.ref).toArray 0)).get? (s.heap.objs.size + 1) = some (seqObj "list" (as.map Value.ref).toArray 0) := by
    rw [← hsz]; exact Heap.get?_push_size _ rfl
  have hs1 : (((s.heap.push (seqObj "list" #[] 0)).update s.heap.objs.size (Obj.mapSeq (· ++ (as.map Value.ref).toArray))).push (seqObj "list" (as.map Value.ref).toArray 0)).objs.size = s.heap.objs.size + 2 := by
    rw [size_push', hsz]
  have keep1 : ∀ b o, s.heap.get? b = some o → (((s.heap.push (seqObj "list" #[] 0)).update s.heap.objs.size (Obj.mapSeq (· ++ (as.map Value.ref).toArray))).push (seqObj "list" (as.map Value.ref).toArray 0)).get? b = some o := fun b o e => by
    have hlt : b < s.heap.objs.size := Heap.lt_size e
    refine Heap.get?_push_of_some _ ?_
    rw [Heap.get?_update_ne _ _ _ _ (Nat.ne_of_lt hlt)]
    exact Heap.get?_push_of_some _ e
  show wpAny _ _ _ _ _ { s with heap := ((s.heap.push (seqObj "list" #[] 0)).update s.heap.objs.size (Obj.mapSeq (· ++ (as.map Value.ref).toArray))).push (seqObj "list" (as.map Value.ref).toArray 0) }
  rw [hsz]
  generalize hh1 : ((s.heap.push (seqObj "list" #[] 0)).update s.heap.objs.size (Obj.mapSeq (· ++ (as.map Value.ref).toArray))).push (seqObj "list" (as.map Value.ref).toArray 0) = h1 at hoL keep1 hs1 ⊢
  refine wpAny_bind (wpAny_holding (wpAny_call_entry_kw slot_list_sort ⟨_, hoL, rfl⟩ entry_list_sort ?_ (ksk_l1 _ _)))
  rw [ksk_t1]
  unfold ksk_tree
  obtain ⟨e1, ho1⟩ : ∃ e1, (h1.update (s.heap.objs.size + 1) (Obj.mapSeq fun _ => (#[] : Array Value))).get? (s.heap.objs.size + 1) = some (seqObj "list" #[] e1) := ⟨_, get?_update_seq hoL fun _ => #[]⟩
  refine wpAny_bind (listItems_at hoL rfl ?_)
  refine wpAny_bind (listUpdate_at hoL rfl ?_ (by rw [List.size_toArray]; exact hzv) (Nat.zero_le _))
  refine wpAny_bind (seqEpoch_at ho1 rfl ?_)
  refine wpAny_bind (wpAny_newTuple ?_ (by show (as.map Value.ref).length ≤ _; exact hzv))
  refine wpAny_bind (wpAny_newList ?_ (Nat.zero_le _))
  refine wpAny_holding ?_
  have hkS : ((h1.update (s.heap.objs.size + 1) (Obj.mapSeq fun _ => (#[] : Array Value))).push { cls := .type "tuple", data := .seq (as.map Value.ref).toArray.toList.toArray }).objs.size = s.heap.objs.size + 3 := by
    rw [size_push', Heap.size_update, hs1]
  have ha2 : (((h1.update (s.heap.objs.size + 1) (Obj.mapSeq fun _ => (#[] : Array Value))).push { cls := .type "tuple", data := .seq (as.map Value.ref).toArray.toList.toArray }).push { cls := .type "list", data := .seq ([] : List Value).toArray }).get? (s.heap.objs.size + 1) = some (seqObj "list" #[] e1) :=
    Heap.get?_push_of_some _ (Heap.get?_push_of_some _ ho1)
  have hk2 : (((h1.update (s.heap.objs.size + 1) (Obj.mapSeq fun _ => (#[] : Array Value))).push { cls := .type "tuple", data := .seq (as.map Value.ref).toArray.toList.toArray }).push { cls := .type "list", data := .seq ([] : List Value).toArray }).get? (s.heap.objs.size + 3) = some (seqObj "list" #[] 0) := by
    rw [← hkS]; exact Heap.get?_push_size _ rfl
  have keep2 : ∀ b o, s.heap.get? b = some o → (((h1.update (s.heap.objs.size + 1) (Obj.mapSeq fun _ => (#[] : Array Value))).push { cls := .type "tuple", data := .seq (as.map Value.ref).toArray.toList.toArray }).push { cls := .type "list", data := .seq ([] : List Value).toArray }).get? b = some o := fun b o e => by
    have hlt : b < s.heap.objs.size := Heap.lt_size e
    refine Heap.get?_push_of_some _ (Heap.get?_push_of_some _ ?_)
    rw [Heap.get?_update_ne _ _ _ _ (Nat.ne_of_lt (Nat.lt_succ_of_lt hlt))]
    exact keep1 b o e
  rw [hkS]
  generalize hh2 : ((h1.update (s.heap.objs.size + 1) (Obj.mapSeq fun _ => (#[] : Array Value))).push { cls := .type "tuple", data := .seq (as.map Value.ref).toArray.toList.toArray }).push { cls := .type "list", data := .seq ([] : List Value).toArray } = h2 at ha2 hk2 keep2 ⊢
  have I2 : Inv X pins σ H { s with heap := h2 } := I.kept (t' := s.toks) keep2
  have fpA : ∀ {H' : Hp}, H' (s.heap.objs.size + 1) = none → FpOk X pins H' (s.heap.objs.size + 1) := fun hn => I.fpOk (Nat.le_succ _) hn
  have fpK : ∀ {H' : Hp}, H' (s.heap.objs.size + 3) = none → FpOk X pins H' (s.heap.objs.size + 3) := fun hn => I.fpOk (Nat.le_add_right _ 3) hn
  have sb2 : Sub X n X.A.in1.in1 := Sub.in1 (Sub.in1 sb)
  generalize hA1 : s.heap.objs.size + 1 = a1 at ha2 fpA ⊢
  generalize hK1 : s.heap.objs.size + 3 = kS at hk2 fpK ⊢
  have hka : kS ≠ a1 := by
    rw [← hA1, ← hK1]
    exact fun z => by
      have z' : s.heap.objs.size + 3 = s.heap.objs.size + 1 := z
      omega
  unfold ksk_rest
  refine wpAny_bind (wpAny_rule ?_)
  have toL : (as.map Value.ref).toArray = (as.map Value.ref).toArray := rfl
  first
    | rw [List.forIn_toArray]
    | (rw [← Array.forIn_toList]; simp only [List.toList_toArray])
    | rw [← Array.forIn_toList]
  refine wpAny_bind (ksk_fold (fun i s' => ∃ H' kA e, Inv X pins σ H' s' ∧ s'.heap.get? kS = some (seqObj "list" kA e) ∧ s'.heap.get? a1 = some (seqObj "list" #[] e1) ∧ H' kS = none ∧ H' a1 = none ∧ StrsAre kA.toList ((as.map κ).take i) ∧ Pv i H') (as.map Value.ref) 0 _
    ⟨H, #[], 0, I2, hk2, ha2, by rw [← hK1]; exact I.hok.fresh (Nat.le_add_right _ 3), by rw [← hA1]; exact I.hok.fresh (Nat.le_succ _), by simpa using StrsAre.nil, p0⟩ ?step ?done)
  case step =>
    rintro j x s' hx ⟨H', kA, e, I', gk, ga, nk, na, hS, pv⟩
    simp only [Nat.zero_add] at hS pv ⊢
    obtain ⟨a, haj, rfl⟩ : ∃ a, as[j]? = some a ∧ Value.ref a = x := by
      rw [List.getElem?_map] at hx
      cases hq : as[j]? with
      | none => rw [hq] at hx; cases hx
      | some a => rw [hq] at hx; exact ⟨a, rfl, Option.some.inj hx⟩
    have hj : j < as.length := (List.getElem?_eq_some_iff.mp haj).1
    have I3 : Inv X (pins ++ pinsAt [kS, a1] s'.heap) σ H' s' := I'.pinned (fun b hb => by
      rcases List.mem_cons.mp hb with z | z
      · rw [z]; exact fpK nk
      · rw [List.mem_singleton.mp z]; exact fpA na) fun b hb => by
      rcases List.mem_cons.mp hb with z | z
      · rw [z]; exact ⟨_, gk, fun v z => by cases z⟩
      · rw [List.mem_singleton.mp z]; exact ⟨_, ga, fun v z => by cases z⟩
    refine wpAny_bind (wpAny_attempt (wpAny_mono (hf X.A.in1.in1 _ s' σ H' (.ref a) (.ref a) _ sb2 I3 (fun p hp => List.mem_append_left _ (hP p hp)) rfl (turn j a H' haj pv)) (fun v s'' he => ?_) fun _ _ hF => hF.elim))
    obtain ⟨w', H2, I4, rw', ew, pv2⟩ := he
    subst ew
    obtain ⟨tk, rfl⟩ := rw'
    have pk := I4.pin (kS, seqObj "list" kA e) (List.mem_append_right _ (List.mem_append_right _ (mem_pinsAt (by simp) gk)))
    have pa := I4.pin (a1, seqObj "list" #[] e1) (List.mem_append_right _ (List.mem_append_right _ (mem_pinsAt (by simp) ga)))
    have hzk : kA.size ≤ as.length := by
      have z := hS.len_eq
      rw [Array.length_toList, List.length_take, List.length_map] at z
      omega
    have s1 := Heap.SameBut.update s''.heap kS (Obj.mapSeq (·.push (.str (κ a) tk)))
    obtain ⟨c2, hc2⟩ : ∃ c2, (s''.heap.update kS (Obj.mapSeq (·.push (.str (κ a) tk)))).get? kS = some (seqObj "list" (kA.push (.str (κ a) tk)) c2) := ⟨_, get?_update_seq pk.1 (·.push (.str (κ a) tk))⟩
    obtain ⟨f0, f1, f2, f3, f4, f5⟩ := fpK pk.2.1
    have I5 : Inv X pins σ H2 { s'' with heap := s''.heap.update kS (Obj.mapSeq (·.push (.str (κ a) tk))) } := (I4.unpinned).turned (t' := s''.toks) (fun b o hb e => (s1.2 b hb).trans e) f0 f1 f3 f4 f5
    try dsimp only
    refine wpAny_bind (listUpdate_at pk.1 rfl ?_ (by omega) (Nat.le_trans (Nat.le_of_eq (Array.size_push ..)) (by omega)))
    refine wpAny_pure ⟨rfl, H2, kA.push (.str (κ a) tk), c2, I5, hc2, (s1.2 a1 hka.symm).trans pa.1, pk.2.1, pa.2.1, ?_, pv2⟩
    have ek : (as.map κ).take (j + 1) = (as.map κ).take j ++ [κ a] := by
      rw [List.take_add_one, List.getElem?_map, haj] <;> rfl
    have ea : (kA.push (Value.str (κ a) tk)).toList = kA.toList ++ [Value.str (κ a) tk] := by simp
    rw [ek, ea]
    exact strs_snoc hS
  case done =>
    rintro s' ⟨H', kA, e, I', gk, ga, nk, na, hS, pv⟩
    have e3 : (as.map κ).take (0 + (as.map Value.ref).length) = as.map κ := List.take_of_length_le (by simp)
    rw [e3] at hS
    have e4 : 0 + (as.map Value.ref).length = as.length := by simp
    rw [e4] at pv
    try dsimp only
    refine wpAny_bind (listItems_at gk rfl ?_)
    refine endS gk ga hka hzv hS (by simp) fun h' c arr hso g1 g2 => ⟨_, rfl, ?_⟩
    -- the pairs, read back
    have hmem : ∀ p ∈ arr, ∃ a, p.2 = Value.ref a ∧ strOf p.1 = κ a := fun p hp => by
      have hm := hso.perm.mem_iff.mp hp
      obtain ⟨i, hi⟩ := List.mem_iff_getElem?.mp hm
      rw [List.getElem?_zip_eq_some] at hi
      obtain ⟨h1', h2'⟩ := hi
      rw [List.getElem?_map] at h2'
      cases hq : as[i]? with
      | none => rw [hq] at h2'; cases h2'
      | some a =>
        rw [hq] at h2'
        refine ⟨a, (Option.some.inj h2').symm, ?_⟩
        have es := hS.strs
        have q2 : (kA.toList.map strOf)[i]? = some (κ a) := by rw [es, List.getElem?_map, hq] <;> rfl
        rw [List.getElem?_map, h1'] at q2
        exact Option.some.inj q2
    have hz2 : (kA.toList.zip (as.map Value.ref)).map (fun p : Keyed => bkA p.2) = as := by
      have q : (kA.toList.zip (as.map Value.ref)).map (fun p : Keyed => bkA p.2) = ((kA.toList.zip (as.map Value.ref)).map Prod.snd).map bkA := by rw [List.map_map] <;> rfl
      have hl2 := hS.len_eq
      rw [q, List.map_snd_zip (by rw [hl2]; simp), List.map_map]
      have e5 : (bkA ∘ Value.ref) = (id : Addr → Addr) := rfl
      rw [e5, List.map_id]
    have hys : IsSort κ (arr.map fun p : Keyed => bkA p.2) as := by
      have q := hso.map (k' := κ) (fun p : Keyed => bkA p.2) fun p hp => by
        obtain ⟨a, e5, e6⟩ := hmem p (hso.perm.mem_iff.mpr hp)
        show κ (bkA p.2) = strOf p.1
        rw [e5, e6] <;> rfl
      rw [hz2] at q
      exact q
    have eout : arr.map (·.2) = (arr.map fun p : Keyed => bkA p.2).map Value.ref := by
      rw [List.map_map]
      refine List.map_congr_left fun p hp => ?_
      obtain ⟨a, e5, _⟩ := hmem p hp
      show p.2 = Value.ref (bkA p.2)
      rw [e5] <;> rfl
    have hlen : ((arr.map fun p : Keyed => bkA p.2).map V.ref).length ≤ sizeLine := by
      rw [List.length_map, hys.perm.length_eq]; exact hz
    have fk := fpK nk
    have fa := fpA na
    have I6 : Inv X pins σ H' { s' with heap := h' } := I'.turnedL (t' := s'.toks) (ch := [kS, a1]) (fun b o hb e => g2 b o (fun z => hb (by simp [z])) (fun z => hb (by simp [z])) e) fun b hb => by
      rcases List.mem_cons.mp hb with z | z
      · rw [z]; exact fk
      · rw [List.mem_singleton.mp z]; exact fa
    rw [eout] at g1
    refine wpAny_pure ⟨_, rfl, V.ref a1, _, I6.adopt (o := .lst ((arr.map fun p : Keyed => bkA p.2).map V.ref)) fa (by rw [hex]; simp) (show ObjOk X.prog X.w _ _ _ (.lst _) from ⟨hlen, _, c, refs_vals _, g1⟩), rfl, fin H' _ a1 pv hys na ?_⟩
    rw [← hA1]
    exact I.hok.fresh (Nat.le_succ _)
end
end L2

set_option Elab.async false
set_option linter.all false
set_option maxRecDepth 100000
set_option maxHeartbeats 2000000
/-! a lambda without captured names as a value; as the key of sorted -/
namespace XL
open PySem PySem.Spec PyProof.Rows L2 LamX
/-- the lambda's function object at f, its code object at c' -/
def FunO (f : Addr) (q : Str) (params : Arguments) (body : Expr) (scope : Scope) (c' : Addr) : HO := .ext fun h => ∃ pm ctv : Value, h.get? f = some (PySem.W.kla_obj "<lambda>" q params body scope [] pm c' ctv)
theorem clo_nil (cells : List (Str × Addr)) : ∀ (names : List (Str × NameKind)) , (∀ y ∈ names, y.2 ≠ .free) → cloFrom cells names [] = [] := by
  intro names
  induction names with
  | nil => intro _; rfl
  | cons y r ih =>
    intro h
    obtain ⟨n, k⟩ := y
    have hk : k ≠ .free := h (n, k) List.mem_cons_self
    unfold cloFrom
    cases k <;> first | exact ih (fun z hz => h z (List.mem_cons_of_mem _ hz)) | exact absurd rfl hk
section
variable {X : Cx} {pins : List (Addr × Obj)} {σ : L2.St} {H : Hp} {s : Shared}
/-- lambda ..: body, told as a tracked object -/
def tLamV (T : List (Addr × Str)) (q : Str) (params : Arguments) (body : Expr) (scope : Scope) : TE := fun σ H Q => Tabs T H ∧ ∀ (H1 : Hp) (f c' : Addr), ExtN H H1 → Tabs T H1 → H1 f = none → H f = none → H1 c' = some (CodeO c' q) → Q (.ref f) (upd H1 f (FunO f q params body scope c'))
theorem pe_lamV {T : List (Addr × Str)} {c P : Addr} {params : Arguments} {body : Expr} {scope : Scope} {pos : Pos} (TB : TabB X.base X.mg c P) (hcode : X.env.code = .ref c) (hex : X.ex = [])
    (hm : (P, X.env.qual ++ "<lambda>") ∈ T) (hu : ∀ p ∈ T, p.1 = P → p.2 = X.env.qual ++ "<lambda>") (hdef : defaultsOf params X.env = ([], [])) (hfree : ∀ y ∈ scope.names, y.2 ≠ .free) :
    PE X (.Lambda params body scope pos) (tLamV T (X.env.qual ++ "<lambda>") params body scope) := by
  refine ⟨fun pins s σ H Q I h => ?_⟩
  obtain ⟨hT, h⟩ := h
  obtain ⟨ps, hP, ht, ha⟩ := hT _ hm
  have hfree' : ∀ y ∈ scope.names, y.2 = .free → ∃ c, X.env.cells.lookup y.1 = some c := fun y hy e => absurd e (hfree y hy)
  refine PySem.W.kla_eval hdef ?_
  have bP : s.heap.BuiltinsAt X.mg P := TB.bm.keeps I.bk
  have hP' : s.heap.get? P = some { cls := .none, data := .fields ps } := I.hok P _ hP
  have done : ∀ (f c' : Addr) (pm ctv : Value) (H1 : Hp) (s' : Shared), Inv X pins σ H1 s' → ExtN H H1 → Tabs T H1 → s'.heap.get? f = some (PySem.W.kla_obj "<lambda>" (X.env.qual ++ "<lambda>") params body scope (cloFrom X.env.cells scope.names []) pm c' ctv) →
      s.heap.objs.size ≤ f → H1 f = none → H1 c' = some (CodeO c' (X.env.qual ++ "<lambda>")) → EP X pins σ Q (.ref f) s' := fun f c' pm ctv H1 s' I1 e1 e2 e3 e4 e5 e6 => by
    rw [clo_nil _ _ hfree] at e3
    refine ⟨.ref f, _, I1.adopt (o := FunO f (X.env.qual ++ "<lambda>") params body scope c') (I.fpOk e4 e5) (by rw [hex]; simp) ⟨⟨pm, ctv, e3⟩, ⟨_, e3⟩, fun h1 h2 ⟨pm, ctv, z⟩ st => ⟨pm, ctv, st _ z⟩⟩, rfl, h H1 f c' e1 e2 e5 (I.hok.fresh e4) e6⟩
  cases hc : codeAmong pos ps.toList with
  | none =>
    refine PySem.W.kla_makeFunction (mg := X.mg) (c := c) (P := P) (ps := ps) (closure_ok hfree') I.ok.glob (I.mod.glob.keeps I.bk) hcode (TB.code.keeps I.bk) hP' ht hc TB.gP bP fun c' ctv h' tk hx hge hlt hrec htb => ?_
    obtain ⟨c2, oc, vs, t, e2, hoc, hd, hv⟩ := hrec
    cases e2
    have hsz : s.heap.objs.size ≤ h'.objs.size := Nat.le_trans hge (Nat.le_of_lt hlt)
    have nC : H c' = none := I.hok.fresh hge
    have I1 := inv_table (t' := tk) (more := #[rawInt pos.line, rawInt pos.col, .ref c']) (h' := h'.push (PySem.W.kla_obj "<lambda>" (X.env.qual ++ "<lambda>") params body scope (cloFrom X.env.cells scope.names []) ((X.mg "__name__").getD .none) c' ctv)) I hP
      (fun b o hb e => Heap.get?_push_of_some _ (hx b o hb e)) (Heap.get?_push_of_some _ htb) hge ⟨oc, vs, t, Heap.get?_push_of_some _ hoc, hd, hv⟩
    have hE : ExtN H (upd (upd H P (.tbl (ps ++ #[rawInt pos.line, rawInt pos.col, .ref c']))) c' (CodeO c' (X.env.qual ++ "<lambda>"))) := fun b o e n => by
      rw [upd_ne (ne_of_none e nC), upd_ne (fun z => n ps (Option.some.inj (e.symm.trans (by rw [z]; exact hP))))]
      exact e
    have eL : (ps ++ #[rawInt pos.line, rawInt pos.col, .ref c']).toList = ps.toList ++ [rawInt pos.line, rawInt pos.col, .ref c'] := by simp
    refine done h'.objs.size c' ((X.mg "__name__").getD .none) ctv _ _ I1 hE (fun p hp => ?_) (Heap.get?_push_size _ rfl) hsz ?_ upd_same
    · by_cases hb : p.1 = P
      · rw [hu p hp hb, hb]
        refine ⟨_, by rw [upd_ne (ne_of_none hP nC), upd_same], by rw [eL]; exact PySem.TriplesOk_snoc _ _ _ _ ht, fun p' cv hcv => ?_⟩
        rw [eL] at hcv
        rcases among_app _ ht hcv with z | z
        · obtain ⟨c0, e1, e2⟩ := ha p' cv z
          exact ⟨c0, e1, hE _ _ e2 codeO_ne⟩
        · exact ⟨c', z, upd_same⟩
      · obtain ⟨ps', a1, a2, a3⟩ := hT p hp
        refine ⟨ps', by rw [upd_ne (ne_of_none a1 nC), upd_ne hb]; exact a1, a2, fun p' cv hcv => ?_⟩
        obtain ⟨c0, e1, e2⟩ := a3 p' cv hcv
        exact ⟨c0, e1, hE _ _ e2 codeO_ne⟩
    · have n1 : h'.objs.size ≠ c' := Nat.ne_of_gt hlt
      have n2 : h'.objs.size ≠ P := Nat.ne_of_gt (Nat.lt_of_lt_of_le (Heap.lt_size hP') hsz)
      rw [upd_ne n1, upd_ne n2]
      exact I.hok.fresh hsz
  | some cv =>
    obtain ⟨c', e, hco⟩ := ha pos cv hc
    subst e
    refine PySem.W.kla_makeFunctionHit (mg := X.mg) (c := c) (P := P) (ps := ps) (closure_ok hfree') I.ok.glob (I.mod.glob.keeps I.bk) hcode (TB.code.keeps I.bk) hP' ht hc bP fun ctv h' tk hx hsz => ?_
    have I1 : Inv X pins σ H { s with heap := h'.push (PySem.W.kla_obj "<lambda>" (X.env.qual ++ "<lambda>") params body scope (cloFrom X.env.cells scope.names []) ((X.mg "__name__").getD .none) c' ctv), toks := tk } := I.kept fun b o e => Heap.get?_push_of_some _ (hx b o e)
    exact done h'.objs.size c' ((X.mg "__name__").getD .none) ctv H _ I1 (ExtN.refl H) hT (Heap.get?_push_size _ rfl) hsz (I.hok.fresh hsz) hco
/-- such a lambda of one parameter, as a key -/
theorem keyOk_lam {k : Nat} {q a : Str} {params : Arguments} {body : Expr} {scope : Scope} {N : List Str} {sp : V → Hp → VK → Prop} (S : FnScope N [a] scope)
    (hbind : ∀ (pm cv ctv u : Value), bindArgs (PySem.W.kla_fn "<lambda>" q params body scope [] pm cv ctv) ⟨[u], []⟩ = pure [(a, u)])
    (hbody : ∀ (f c' : Addr) (A : Around) (outer : List Env) (s : Shared) (H : Hp) (x : V) (Q : VK), Room k (A.deeper (envOfC q scope s.heap.objs.size f (.ref c'))) → sp x H Q →
      ∃ t, PE (cxOf CX0 X.prog X.w X.K X.mg X.base N q scope f (.ref c') A outer s H E0).nox body t ∧ t (L2.start N [x]) H Q) (f : Addr) :
    KeyOk X (k + 1) [] (.ref f) (fun x H Q => ∃ c', H f = some (FunO f q params body scope c') ∧ H c' = some (CodeO c' q) ∧ sp x H Q) := by
  intro A pins s σ H x u Q sb I _ rx h
  obtain ⟨c', hf, hc, hsp⟩ := h
  obtain ⟨⟨pm, ctv, hob⟩, _, _⟩ := I.hok f _ hf
  obtain ⟨⟨oc, vs, t, hoc, hdc, hvc⟩, _, _⟩ := I.hok c' _ hc
  have e0 : Env0 X.prog X.w X.K X.mg X.base A X.stack s H := by
    have e := I.env0
    exact ⟨by rw [sb.fr]; exact e.frames, e.mod, e.bs, e.bsz, e.funs, e.frf, e.hok, e.bare⟩
  have lim : s.heap.NoLimit := I.nolimit
  have hkind : ∀ y ∈ [(a, u)], scope.names.lookup y.1 = some .local ∨ (scope.names.lookup y.1 = some .cell ∧ ((cellsFrom (s.heap.objs.size + 1) scope.names []).lookup y.1).isSome = true) := fun y hy => by
    rw [List.mem_singleton.mp hy]
    rcases S.par a (by simp) with z | z
    · exact .inl z
    · exact .inr ⟨z, PySem.W.cellsFrom_some _ _ _ (.inl z)⟩
  have rc : codeAny (model X.prog X.w) A (.call (.ref f) ⟨[u], []⟩) (CR CX0 X.stack X.prog X.w H s Q E0) s := by
    refine PySem.W.kla_callFunE sb.room.depth hob rfl S.co S.gen rfl ⟨c', oc, vs, t, rfl, hoc, hdc, hvc⟩ ?_
    rw [hbind]
    refine wpAny_pure ?_
    refine wpAny_newFunctionEnv_cells S.kind hkind fun env he s1 xx => ?_
    subst he
    refine ⟨lim.keeps xx.toInCall.keep, ?_⟩
    obtain ⟨t, ht, hq⟩ := hbody f c' A X.stack s H x Q (sb.room.deeper _) hsp
    have J : Inv (cxOf CX0 X.prog X.w X.K X.mg X.base N q scope f (.ref c') A X.stack s H E0) [] (L2.start N [x]) H s1 := inv_start S sb.room.hd e0 rfl (.cons rx .nil) xx
    refine PySem.W.kla_codeExpr (wpAny_mono (ht.nox.run [] s1 (L2.start N [x]) H Q J hq) (fun v s' hs => ?_) fun e s' hs => hs)
    obtain ⟨w', H', J', rv, q⟩ := hs
    exact ⟨w', H', J'.os, J'.bare, J'.base, J'.hok, rv, q⟩
  refine wpAny_call (codeAny_mono rc fun r s' hq => ?_)
  cases r with
  | error e => exact (show False from hq).elim
  | ok fl =>
    cases fl with
    | ret u => exact I.after hq
    | next => exact False.elim hq
    | brk => exact False.elim hq
    | cont => exact False.elim hq
end
end XL
namespace L2
open PySem PySem.Spec PyProof.Rows XK
section
variable {X : Cx}
/-- sorted(xs, key=f): f in S with its promise -/
def rSortKey (K : PySem.W.Frag) (S : Addr → V → Hp → VK → Prop) : List V → List V → Hp → VK → Prop := fun vs zs H Q => ∃ l f, vs = [V.ref l] ∧ zs = [V.ref f] ∧ rSortBy K (S f) l H Q
theorem cr_sortKey {n : Nat} {S : Addr → V → Hp → VK → Prop} (hf : ∀ f, KeyOk X n [] (.ref f) (S f)) (hr : Room (n + 2) X.A) (hex : X.ex = []) : CallRK X (.builtin "sorted") [Str.ofString "key"] (rSortKey X.K S) := by
  intro pins s σ H vs zs us ws Q I r rz h
  obtain ⟨l, f, rfl, rfl, h⟩ := h
  rw [Vals.ref1 r]
  obtain ⟨w1, rfl, e1⟩ := vals1 rz
  obtain rfl : w1 = Value.ref f := e1
  exact sortBy_run (hf f) ⟨hr, rfl⟩ hex I (fun p hp => absurd hp (by simp)) h
/-- a def as the key -/
def SDef (f0 : Addr) (sp : Sp) : Addr → V → Hp → VK → Prop := fun f x H Q => f = f0 ∧ sp [x] H Q E0
theorem keyOk_def {k : Nat} {f0 : Addr} {fd : FuncData} {ps : List Str} {sp : Sp} (F : FnOk X.prog X.w X.K X.mg X.base CX0 k f0 fd ps sp) (hb : Binds X.K fd ps []) (f : Addr) : KeyOk X k [] (.ref f) (SDef f0 sp f) := by
  intro A pins s σ H x u Q sb I hp rx h
  obtain ⟨rfl, h⟩ := h
  exact keyOk_fn F hb A pins s σ H x u Q sb I hp rx h
end
end L2

set_option Elab.async false
set_option linter.all false
set_option maxRecDepth 100000
set_option maxHeartbeats 2000000
/-! a local name that holds a lambda without captured names, called -/
namespace L2
open PySem PySem.Spec PyProof.Rows LamX XL
/-- the i-th slot holds such a lambda -/
def tCallLam (i : Nat) (q : Str) (params : Arguments) (body : Expr) (scope : Scope) (sp : Sp) (t : TA) : TE := fun σ H Q => ∃ f, σ[i]? = some (some (.ref f)) ∧ (∃ c', H f = some (FunO f q params body scope c')) ∧ t σ H fun vs H1 => ∃ c', H1 f = some (FunO f q params body scope c') ∧ H1 c' = some (CodeO c' q) ∧ sp vs H1 Q E0
section
variable {X : Cx} {k i : Nat} {q : Str} {params : Arguments} {body : Expr} {scope : Scope} {N ps : List Str} {sp : Sp} {x : Str} {p pos : Pos} {e : Expr} {es : List Expr} {t : TA}
theorem pe_callLam (S : FnScope N ps scope) (hlen : ∀ vs H Q E, sp vs H Q E → vs.length = ps.length)
    (hbind : ∀ (pm cv ctv : Value) (us : List Value), us.length = ps.length → bindArgs (PySem.W.kla_fn "<lambda>" q params body scope [] pm cv ctv) ⟨us, []⟩ = pure (ps.zip us))
    (hbody : ∀ (f c' : Addr) (A : Around) (outer : List Env) (s : Shared) (H : Hp) (vs : List V) (Q : VK), Room k (A.deeper (envOfC q scope s.heap.objs.size f (.ref c'))) → sp vs H Q E0 →
      ∃ t, PE (cxOf CX0 X.prog X.w X.K X.mg X.base N q scope f (.ref c') A outer s H E0).nox body t ∧ t (L2.start N vs) H Q)
    (hr : Room (k + 1) X.A) (hN : X.N[i]? = some x) (hv : Vis X.env.scope x) (ha : PA X (e :: es) t)
    (hdb : (x == ("__debug__" : Str)) = false := by decide) (hcd : (x == ("__classdict__" : Str)) = false := by decide)
    (he : starEach (e :: es) X.env = (false, eval e X.env) :: starEach es X.env := by rfl) (hpl : (backTo pos (starEach es X.env)).any (·.1) = false := by rfl) : PE X (.Call (.Name x p) (e :: es) [] pos) (tCallLam i q params body scope sp t) := by
  refine ⟨fun pins s σ H Q I h => ?_⟩
  obtain ⟨f, hs, ⟨c0, hf0⟩, ht⟩ := h
  refine wpAny_Call_Name_kw (thn ((pe_var (pos := p) hN hv hdb hcd).run pins s σ H (fun v H1 => v = .ref f ∧ H1 = H) I ⟨.ref f, hs, rfl, rfl⟩) fun u s1 ⟨v, H1, I1, r1, q1⟩ => ?_)
  obtain ⟨rfl, rfl⟩ := q1
  cases r1
  have hall : wpAny (model X.prog X.w) X.A (spliced (backTo pos (starEach (e :: es) X.env))) (fun us s2 => PySem.W.FnAt f s2.heap ∧ wpAny (model X.prog X.w) X.A (call (.ref f) ([] ++ us)) (EP X pins σ Q) X.xe s2) X.xe s1 := by
    refine thn (ha.run pos pins s1 σ _ _ I1 ht) fun us s2 ⟨vs, H2, I2, r, c', hf, hc, hsp⟩ => ?_
    obtain ⟨⟨pm, ctv, hob⟩, _, _⟩ := I2.hok f _ hf
    obtain ⟨⟨oc, cvs, tk, hoc, hdc, hvc⟩, _, _⟩ := I2.hok c' _ hc
    refine ⟨⟨_, _, _, _, hob⟩, ?_⟩
    have e0 : Env0 X.prog X.w X.K X.mg X.base X.A X.stack s2 H2 := I2.env0
    have lim : s2.heap.NoLimit := I2.nolimit
    have hl : us.length = ps.length := by rw [← r.length]; exact hlen _ _ _ _ hsp
    have hkind : ∀ y ∈ ps.zip us, scope.names.lookup y.1 = some .local ∨ (scope.names.lookup y.1 = some .cell ∧ ((cellsFrom (s2.heap.objs.size + 1) scope.names []).lookup y.1).isSome = true) := fun y hy => by
      have hm : y.1 ∈ ps := (List.of_mem_zip hy).1
      rcases S.par y.1 hm with z | z
      · exact .inl z
      · exact .inr ⟨z, PySem.W.cellsFrom_some _ _ _ (.inl z)⟩
    have rc : codeAny (model X.prog X.w) X.A (.call (.ref f) ⟨us, []⟩) (CR CX0 X.stack X.prog X.w H2 s2 Q E0) s2 := by
      refine PySem.W.kla_callFunE hr.depth hob rfl S.co S.gen rfl ⟨c', oc, cvs, tk, rfl, hoc, hdc, hvc⟩ ?_
      rw [hbind _ _ _ us hl]
      refine wpAny_pure ?_
      refine wpAny_newFunctionEnv_cells S.kind hkind fun env he s1 xx => ?_
      subst he
      refine ⟨lim.keeps xx.toInCall.keep, ?_⟩
      obtain ⟨t, ht, hq⟩ := hbody f c' X.A X.stack s2 H2 vs Q (hr.deeper _) hsp
      have J : Inv (cxOf CX0 X.prog X.w X.K X.mg X.base N q scope f (.ref c') X.A X.stack s2 H2 E0) [] (L2.start N vs) H2 s1 := inv_start S hr.hd e0 (by rw [r.length, hl]) r xx
      refine PySem.W.kla_codeExpr (wpAny_mono (ht.nox.run [] s1 (L2.start N vs) H2 Q J hq) (fun v s' hs => ?_) fun e s' hs => hs)
      obtain ⟨w', H', J', rv, q⟩ := hs
      exact ⟨w', H', J'.os, J'.bare, J'.base, J'.hok, rv, q⟩
    refine wpAny_call (codeAny_mono rc fun r s' hq => ?_)
    cases r with
    | error e => exact (show False from hq).elim
    | ok fl =>
      cases fl with
      | ret u => exact I2.after hq
      | next => exact False.elim hq
      | brk => exact False.elim hq
      | cont => exact False.elim hq
  obtain ⟨⟨pm0, ctv0, hob0⟩, _, _⟩ := I1.hok f _ hf0
  exact PySem.W.callWith_F ⟨_, _, _, _, hob0⟩ hall he hpl
end
end L2

set_option Elab.async false
set_option linter.all false
set_option maxRecDepth 100000
set_option maxHeartbeats 1000000
/-! max(xs, default=d), xs a list of ints of any length -/
namespace XM
open PySem PySem.Spec PyProof.Rows
open PySem.Sem (wp)
section
variable {prog : Program} {w : World} {A : Around} {R : Result → Shared → Prop} {I : Addr} {fp wr : List Addr} {G : Array GenState → Array GenState → Prop} {n : Nat} {P : Nat → Value → Prop} {St : Nat → Shared → Prop}
/-- the loop with whatever keywords, one item met already -/
theorem loop_more (W : WalksS prog w A.in1 I fp wr G n P St) (bt : Nat → Nat → Bool) (hcmp : CmpOf prog w A.in1 .Gt P bt) (S : Addr) (hSf : S ∉ fp) (kw : List (Str × Value)) :
    ∀ (k j : Nat) (s : Shared) (vb : Value) (c : Nat), n - (j + 1) = k → j + 1 ≤ n → St (j + 1) s → P (argBest bt j) vb → s.heap.get? S = some { cls := .type "list", dict := none, data := .seq #[vb, vb] c, slots := #[] } →
    (∀ v s', P (argBest bt (n - 1)) v → Moved (S :: wr) G s s' → R (.ok (.ret v)) s') → codeAny (model prog w) A (.builtin "max.loop" ⟨[.ref I, .none, .ref S], kw⟩) R s := by
  have hname : (toString "max" ++ toString ".loop" : String) = "max.loop" := by decide
  have hSw : S ∉ wr := fun h => hSf (W.sub _ h)
  have more : ∀ b ∈ wr, b ∈ S :: wr := fun b hb => List.mem_cons_of_mem _ hb
  have ne : ∀ {b : Addr}, b ∉ S :: wr → S ≠ b := fun hb h => hb (by rw [h]; exact List.mem_cons_self)
  intro k
  induction k with
  | zero =>
    intro j s vb c hk hj hst hPb hS hR
    have hjn : j + 1 = n := by omega
    refine codeAny_builtin F.entry_max_loop ?_
    rw [Around.under_plainId F.plain_max_loop _]
    show wpAny _ A.in1 (seqItems? (.ref S) >>= _) _ _ s
    refine wpAny_bind (wpAny_seqItems hS rfl ?_)
    show wpAny _ A.in1 (tryCatch (pyNext (.ref I)) _ >>= _) _ _ s
    refine wpAny_bind (wpAny_tryCatch (W.done s _ _ (hjn ▸ hst) fun s' hm => ?_))
    have hS' := hm.heap S _ hSw hS
    show wpAny _ A.in1 (updateSeq S (fun _ => #[]) >>= _) _ _ _
    refine wpAny_bind ?_
    refine wpAny_updateSeq hS' rfl (wpAny_bind (wpAny_letGo (wpAny_pure ?_)))
    exact hR vb _ (by rw [← hjn]; exact hPb) ((hm.mono more).then_heap (tk := s'.toks) (Nat.le_refl _) fun b o hb e => (Heap.get?_update_other _ _ (ne hb)).trans e)
  | succ k ih =>
    intro j s vb c hk hj hst hPb hS hR
    have hlt : j + 1 < n := by omega
    refine codeAny_builtin F.entry_max_loop ?_
    rw [Around.under_plainId F.plain_max_loop _]
    show wpAny _ A.in1 (seqItems? (.ref S) >>= _) _ _ s
    refine wpAny_bind (wpAny_seqItems hS rfl ?_)
    show wpAny _ A.in1 (tryCatch (pyNext (.ref I)) _ >>= _) _ _ s
    refine wpAny_bind (wpAny_tryCatch (W.item (j + 1) s _ _ hlt hst fun v s' hP hst' hm => ?_))
    have hS' := hm.heap S _ hSw hS
    show wpAny _ A.in1 (tryCatch (holding [v, v] (richCompare .Gt v vb >>= _)) _ >>= _) _ _ _
    refine wpAny_bind (wpAny_tryCatch (wpAny_holding (wpAny_bind (hcmp (j + 1) (argBest bt j) v vb _ _ _ hP hPb ?_))))
    refine wpAny_bind (wpAny_holding (wpAny_truthy_bool ?_))
    refine wpAny_bind (wpAny_letGo (wpAny_pure ?_))
    cases hb : bt (j + 1) (argBest bt j) with
    | true =>
      simp only [if_true]
      refine wpAny_bind ?_
      refine wpAny_updateSeq hS' rfl (wpAny_bind (wpAny_letGo ?_))
      rw [hname]
      refine wpAny_pure ⟨plainId_quiet F.plain_max_loop _, ih (j + 1) _ v _ (by omega) hlt (W.frame _ s' _ s'.toks hst' (Nat.le_refl _) fun b hbf o e => ?_) (by simp only [argBest, hb, if_true]; exact hP) (Heap.get?_update_self _ hS' rfl)
        fun v' s'' hP' hm'' => ?_⟩
      · exact (Heap.get?_update_other _ _ (fun h : S = b => hSf (by rw [h]; exact hbf))).trans e
      · exact hR v' s'' hP' (Moved.trans W.gtrans ((hm.mono more).then_heap (Nat.le_refl _) fun b o hb e => (Heap.get?_update_other _ _ (ne hb)).trans e) hm'')
    | false =>
      simp only [Bool.false_eq_true, if_false]
      refine wpAny_bind (wpAny_letGo ?_)
      rw [hname]
      refine wpAny_pure ⟨plainId_quiet F.plain_max_loop _, ih (j + 1) _ vb c (by omega) hlt hst' (by simp only [argBest, hb, Bool.false_eq_true, if_false]; exact hPb) hS' fun v' s'' hP' hm'' => ?_⟩
      exact hR v' s'' hP' (Moved.trans W.gtrans (hm.mono more) hm'')
/-- the loop from its start; nothing there: the default -/
theorem loop_start (W : WalksS prog w A.in1 I fp wr G n P St) (bt : Nat → Nat → Bool) (hcmp : CmpOf prog w A.in1 .Gt P bt) (S : Addr) (hSf : S ∉ fp) {d : Value} {s : Shared} {c : Nat} (hst : St 0 s)
    (hS : s.heap.get? S = some { cls := .type "list", dict := none, data := .seq #[] c, slots := #[] })
    (hR : ∀ v s', (if n = 0 then v = d else P (argBest bt (n - 1)) v) → Moved (S :: wr) G s s' → R (.ok (.ret v)) s') : codeAny (model prog w) A (.builtin "max.loop" ⟨[.ref I, .none, .ref S], [("default", d)]⟩) R s := by
  have hname : (toString "max" ++ toString ".loop" : String) = "max.loop" := by decide
  have hSw : S ∉ wr := fun h => hSf (W.sub _ h)
  have more : ∀ b ∈ wr, b ∈ S :: wr := fun b hb => List.mem_cons_of_mem _ hb
  have ne : ∀ {b : Addr}, b ∉ S :: wr → S ≠ b := fun hb h => hb (by rw [h]; exact List.mem_cons_self)
  refine codeAny_builtin F.entry_max_loop ?_
  rw [Around.under_plainId F.plain_max_loop _]
  show wpAny _ A.in1 (seqItems? (.ref S) >>= _) _ _ s
  refine wpAny_bind (wpAny_seqItems hS rfl ?_)
  show wpAny _ A.in1 (tryCatch (pyNext (.ref I)) _ >>= _) _ _ s
  by_cases hn : n = 0
  · subst hn
    refine wpAny_bind (wpAny_tryCatch (W.done s _ _ hst fun s' hm => ?_))
    show wpAny _ A.in1 (rule _ >>= fun _ => ret d) _ _ _
    refine wpAny_bind (wpAny_rule (wpAny_pure ?_))
    exact hR d s' (by rw [if_pos rfl]) (hm.mono more)
  · have hn' : 0 < n := by omega
    refine wpAny_bind (wpAny_tryCatch (W.item 0 s _ _ hn' hst fun v s' hP hst' hm => ?_))
    have hS' := hm.heap S _ hSw hS
    show wpAny _ A.in1 (updateSeq S (fun _ => #[v, v]) >>= _) _ _ _
    refine wpAny_bind ?_
    refine wpAny_updateSeq hS' rfl ?_
    rw [hname]
    refine wpAny_pure ⟨plainId_quiet F.plain_max_loop _, loop_more W bt hcmp S hSf _ _ 0 _ v _ rfl hn' (W.frame _ s' _ s'.toks hst' (Nat.le_refl _) fun b hbf o e => ?_) hP (Heap.get?_update_self _ hS' rfl) fun v' s'' hP' hm'' => ?_⟩
    · exact (Heap.get?_update_other _ _ (fun h : S = b => hSf (by rw [h]; exact hbf))).trans e
    · exact hR v' s'' (by rw [if_neg hn]; exact hP') (Moved.trans W.gtrans ((hm.mono more).then_heap (Nat.le_refl _) fun b o hb e => (Heap.get?_update_other _ _ (ne hb)).trans e) hm'')
end
section
variable {prog : Program} {w : World} {A : Around} {E : Value → Shared → Prop} {s : Shared} {l : Addr}
theorem args_max1d (a d : Value) : argsOk "max" ⟨[a], [("default", d)]⟩ := by
  unfold argsOk
  kernel_rfl
theorem call_fn_kw {id : String} {b : Builtin} {args : List Value} {kw : List (Str × Value)} {Q : Value → Shared → Prop} (hk : builtinKind id = none) (hp : plainId id = true) (hb : entryFor table id = some b) (ha : argsOk id ⟨args, kw⟩)
    (hc : wpAny (model prog w) A.in1 (b ⟨args, kw⟩) (fun fin s' => match fin with
      | .done f => (match (Except.ok f : Result) with | .ok (.ret v) => Q v s' | .ok _ => False | .error e => E e s')
      | .again c' => c'.quiet = true ∧ codeAny (model prog w) A c' (fun r s' => match r with | .ok (.ret v) => Q v s' | .ok _ => False | .error e => E e s') s') E s) :
    wpAny (model prog w) A (call (.builtin id) args kw) Q E s := by
  refine wpAny_call (codeAny_call_builtin hp hb ?_)
  simp only [checkBuiltinCall, hk]
  cases hsig : Manifest.signature? id with
  | none => exact wpAny_pure hc
  | some sig =>
    simp only [argsOk, hsig] at ha
    have h2 : Bind.checkArgs id sig ⟨args, kw⟩ = pure () := ha
    show wpAny _ A.in1 (Bind.checkArgs id sig ⟨args, kw⟩) _ _ s
    rw [h2]
    exact wpAny_pure hc
theorem call_maxd {x d : Value} {Q : Value → Shared → Prop}
    (h : wpAny (model prog w) A.in1 (pyIter x) (fun it s₂ => ∃ I fp wr G n P St bt, it = .ref I ∧ WalksS prog w A.in1 I fp wr G n P St ∧ St 0 s₂ ∧ (∀ b ∈ fp, b < s₂.heap.objs.size) ∧ CmpOf prog w A.in1 .Gt P bt ∧
      ∀ v s', (if n = 0 then v = d else P (argBest bt (n - 1)) v) → Moved wr G s₂ s' → Q v s') E s) :
    wpAny (model prog w) A (call (.builtin "max") [x] [("default", d)]) Q E s := by
  have hname : (toString "max" ++ toString ".loop" : String) = "max.loop" := by decide
  refine call_fn_kw F.kind_max F.plain_max F.entry_max (args_max1d x d) ?_
  show wpAny _ A.in1 (Builtin.Builtins.bindParams "max" ["key", "default"] 0 ⟨[], [("default", d)]⟩ >>= _) _ _ s
  refine wpAny_bind (wpAny_of_eq (show Builtin.Builtins.bindParams "max" ["key", "default"] 0 ⟨[], [("default", d)]⟩ = pure [none, some d] from rfl) ?_)
  refine wpAny_bind (wpAny_pure ?_)
  refine wpAny_bind (wpAny_mono h (fun it s₂ h₂ => ?_) fun _ _ e => e)
  obtain ⟨I, fp, wr, G, n, P, St, bt, rfl, W, hst, hfp, hcmp, hQ⟩ := h₂
  refine wpAny_bind (wpAny_newObj_type ?_)
  have hSf : s₂.heap.objs.size ∉ fp := fun hm => Nat.lt_irrefl _ (hfp _ hm)
  rw [hname]
  refine wpAny_pure ⟨plainId_quiet F.plain_max_loop _, loop_start W bt hcmp s₂.heap.objs.size hSf (W.frame 0 s₂ _ s₂.toks hst (Nat.le_refl _) fun b _ o e => Heap.get?_push_of_some _ e) (Heap.get?_push_size _ rfl) fun v s' hP hm => ?_⟩
  exact hQ v s' hP (Moved.drop_new (tk := s₂.toks) hm (Nat.le_refl _))
end
end XM
namespace L2
open PySem PySem.Spec PyProof.Rows XM
section
variable {prog : Program} {w : World} {A : Around} {E : Value → Shared → Prop} {s : Shared} {l : Addr}
theorem maxd_raw {its : List Value} {ns : List Int} {d : Value} {Q : Value → Shared → Prop} (hh : A.handled = none) (hl : s.heap.IsList l its.toArray) (hi : IntsAre its ns)
    (h : ∀ h' tk v, (∀ b o, s.heap.get? b = some o → h'.get? b = some o) → (ns = [] → v = d) → (ns ≠ [] → ∃ M t', v = .int M t' ∧ M ∈ ns ∧ ∀ a, a ∈ ns → a ≤ M) → Q v { s with heap := h', toks := tk }) : wpAny (model prog w) A (call (.builtin "max") [.ref l] [("default", d)]) Q E s := by
  obtain ⟨xs, e⟩ := hi.allInts.items
  have hn : numsOf (intItems xs).toList = ns := by rw [← e]; exact hi.numsOf
  rw [nums_intItems] at hn
  subst hn
  rw [e] at hl
  refine call_maxd (iter_intList hl fun s₂ e2 st hfp hlI => ?_)
  subst e2
  refine ⟨_, _, _, _, _, _, _, _, rfl, (Walks.list (A := A.in1) hh _ l hlI (intItems xs)).toS, st, hfp, CmpOf.ints_gt (numAt xs) (fun _ _ => intItems_at), fun v s' hP hm => ?_⟩
  have hsz : (intItems xs).size = xs.size := by simp [intItems]
  rw [hsz] at hP
  have kept := old_kept (s := s) (l := l) (h' := s'.heap) fun b o hb eo => hm.heap b o hb eo
  have es : s' = { s with heap := s'.heap, toks := s'.toks } := by
    obtain ⟨h1, g1, d1, t1, o1⟩ := s'
    have a1 := hm.gens
    have a2 := hm.drawn
    have a3 := hm.os
    simp only at a1 a2 a3
    subst a1 a2 a3
    rfl
  rw [es]
  have hlen : (xs.toList.map (·.1)).length = xs.size := by rw [List.length_map, Array.length_toList]
  by_cases h0 : xs.size = 0
  · rw [if_pos h0] at hP
    have hnil : xs.toList.map (·.1) = [] := List.length_eq_zero_iff.mp (by omega)
    exact h _ _ v kept (fun _ => hP) (fun hne => absurd hnil hne)
  · rw [if_neg h0] at hP
    obtain ⟨t, rfl⟩ := intItems_at hP
    obtain ⟨h1, h2⟩ := argBest_gt (numAt xs) (xs.size - 1)
    refine h _ _ _ kept (fun hnil => ?_) (fun _ => ⟨_, t, rfl, ?_, fun a ha => ?_⟩)
    · rw [hnil] at hlen
      exact absurd hlen.symm h0
    · rw [numAt_eq]; exact PySem.getD_mem (by rw [List.length_map, Array.length_toList]; omega)
    · obtain ⟨j, hj, rfl⟩ := mem_getD ha
      rw [List.length_map, Array.length_toList] at hj
      rw [← numAt_eq]; exact h2 j (by omega)
end
def rMaxDf (K : PySem.W.Frag) : List V → List V → Hp → VK → Prop := fun vs zs H Q => ∃ (a : Addr) (ns : List Int) (d : Int), vs = [V.ref a] ∧ zs = [V.int d] ∧ SqL K H a (ns.map V.int) ∧ ∀ m, (ns = [] → m = d) → (ns ≠ [] → m ∈ ns ∧ ∀ y ∈ ns, y ≤ m) → Q (.int m) H
section
variable {X : Cx}
theorem cr_maxDf (hc : X.calm = true) : CallRK X (.builtin "max") [Str.ofString "default"] (rMaxDf X.K) := by
  intro pins s σ H vs zs us ws Q I r rz h
  obtain ⟨a, ns, d, rfl, rfl, hs, q⟩ := h
  obtain ⟨its, rv, hl, _⟩ := I.list hs
  rw [Vals.ref1 r]
  obtain ⟨w1, rfl, e1⟩ := vals1 rz
  obtain ⟨t0, rfl⟩ := (show ∃ t, w1 = Value.int d t from e1)
  refine maxd_raw (I.ok.hd hc) hl.isList rv.ints fun h' tk v hk h1 h2 => ?_
  by_cases hn : ns = []
  · rw [h1 hn]
    exact ⟨.int d, H, I.kept hk, ⟨_, rfl⟩, q d (fun _ => rfl) (fun z => absurd hn z)⟩
  · obtain ⟨M, t', rfl, h3, h4⟩ := h2 hn
    exact ⟨.int M, H, I.kept hk, ⟨_, rfl⟩, q M (fun z => absurd z hn) (fun _ => ⟨h3, h4⟩)⟩
end
end L2

set_option Elab.async false
set_option linter.all false
set_option maxRecDepth 100000
set_option maxHeartbeats 2000000
namespace K03
open PySem PySem.Spec PyProof.Rows L2 XS XCS XL LamX XM
/-! ### a def whose code object's address is known -/
structure FunC (K : PySem.W.Frag) (x qual : Str) (st : Stmt) (f : Addr) (fd : FuncData) (c : Addr) : Prop where
  ex : ∃ (oc : Value) (od : Option Addr) (kV doc pm : Value) (an : Option Addr) (ct : Value) (osl : Array (Option Value)),
    fd = PySem.W.fnOf x qual (defArgs st) (defBody st) (defScope st) .none kV doc pm an (.ref c) ct ∧ K.lookup f = some ⟨oc, od, .func fd, osl⟩ ∧ PySem.W.codeIn K (.ref c) qual = true
  kp : PySem.W.keepIn K (.ref f) = true
theorem FunC.ok {P : Program} {w : World} {K : PySem.W.Frag} {mg : Str → Option Value} {base : Heap} {x qual : Str} {st : Stmt} {f c : Addr} {fd : FuncData} {N ps : List Str} {k : Nat} {sp : Sp} (F : FunC K x qual st f fd c) (S : FnScope N ps (defScope st)) (len : ∀ vs H Q E, sp vs H Q E → vs.length = ps.length)
    (hbody : ∀ (A : Around) (outer : List Env) (s : Shared) (H : Hp) (vs : List V) (Q : VK) (E : XK), Room k (A.deeper (envOfC qual (defScope st) s.heap.objs.size f (.ref c))) → sp vs H Q E →
      ∃ t, PSs (cxOf CX0 P w K mg base N qual (defScope st) f (.ref c) A outer s H E).nox (defBody st) t ∧ t { nx := fun _ H' => Q .non H', rt := Q } (L2.start N vs) H) : FnOk P w K mg base CX0 (k + 1) f fd ps sp := by
  obtain ⟨oc, od, kV, doc, pm, an, ct, osl, rfl, lk, hcd⟩ := F.ex
  refine fn_of lk hcd S len fun A outer s H vs Q E hr hsp => ?_
  obtain ⟨t, h, q⟩ := hbody A outer s H vs Q E hr hsp
  exact ⟨t, h.nox, q⟩
/-! ### _few_above, free_variables, depth -/
theorem pe_imp {X : Cx} {e : Expr} {t t' : TE} (h : PE X e t) (m : ∀ σ H Q, t' σ H Q → t σ H Q) : PE X e t' := ⟨fun pins s σ H Q I w => h.run pins s σ H Q I (m σ H Q w)⟩
theorem callR_def {X : Cx} {CX : CXT} {M : Abv} {g : Addr} {gd : FuncData} {k : Nat} {E : XK} (F : FnOk X.prog X.w X.K X.mg X.base CX k g gd ["now", "inside"] (spAb M)) (hr : Room k X.A) (hN : X.N[1]? = some ("above" : Str)) (hv : Vis X.env.scope "above") (hk : PySem.W.keepIn X.K (.ref g) = true) (hb : Binds X.K gd ["now", "inside"] []) (hx : Passes CX X E) :
    CallR X M (fun g' _ => g' = g) E := fun e es p pos t ha he hpl => pe_imp (pe_callL (i := 1) F hr hN hv hk hb .nil hx ha (by decide) (by decide) he hpl) fun σ H Q ⟨g', hs, e1, ht⟩ => by
  subst e1
  refine ⟨hs, ?_⟩
  have e : (fun vs H1 => spAb M (vs ++ []) H1 Q E) = fun vs H1 => g' = g' ∧ spAb M vs H1 Q E := by
    funext vs H1
    simp
  show t σ H fun vs H1 => spAb M (vs ++ []) H1 Q E
  rw [e]
  exact ht
abbrev sFew : Stmt := top 25
abbrev sFree : Stmt := top 21
abbrev sDep : Stmt := top 20
theorem scFew : FnScope ["now", "inside", "names"] ["now", "inside"] (defScope sFew) := ⟨rfl, rfl, rfl, by decide +kernel, rfl, by decide +kernel, by decide +kernel⟩
theorem scFree : FnScope ["formula"] ["formula"] (defScope sFree) := ⟨rfl, rfl, rfl, by decide +kernel, rfl, by decide +kernel, by decide +kernel⟩
theorem scDep : FnScope ["formula"] ["formula"] (defScope sDep) := ⟨rfl, rfl, rfl, by decide +kernel, rfl, by decide +kernel, by decide +kernel⟩
def spFree : Sp := fun vs H Q _ => ∃ (a : Addr) (t : Fm), vs = [.ref a] ∧ Rep H a t ∧ Ok t ∧ num t ≤ 400 ∧ nn t ≤ 63 ∧ ∀ v H', Same H H' → arFr H' v t → Q v H'
def dep : Fm → Nat
  | .leaf _ => 1
  | .un _ f => 1 + dep f
  | .bin _ f g => 1 + max (dep f) (dep g)
def arD (_ : Hp) (v : V) (t : Fm) : Prop := v = .int (dep t : Nat)
def dM : Abv := ⟨arD, fun _ => True, 0, fun _ => True, fun _ h => h⟩
def lamD : Stmt → Option Expr
  | .Return (some (.Call _ (_ :: e :: _) _ _)) _ => some e
  | _ => none
def lamP : Option Expr → Arguments
  | some (.Lambda p _ _ _) => p
  | _ => ⟨[], [], none, [], [], none, []⟩
def lamB : Option Expr → Expr
  | some (.Lambda _ b _ _) => b
  | _ => .Name "" ⟨0, 0, 0, 0⟩
def lamS : Option Expr → Scope
  | some (.Lambda _ _ s _) => s
  | _ => defScope sDep
abbrev lam : Option Expr := lamD ((defBody sDep).getD 0 (.Pass ⟨0, 0, 0, 0⟩))
theorem scLam : FnScope ["now", "depths"] ["now", "depths"] (lamS lam) := ⟨rfl, rfl, rfl, by decide +kernel, rfl, by decide +kernel, by decide +kernel⟩
def lamQ : Str := (envOfC "depth" (defScope sDep) 0 0 .none).qual ++ "<lambda>"
def StL (f : Addr) (H : Hp) : Prop := ∃ c', H f = some (FunO f lamQ (lamP lam) (lamB lam) (lamS lam) c') ∧ H c' = some (CodeO c' lamQ)
theorem stL_keep {g : Addr} {H H' : Hp} (k : KeepO H H') (h : StL g H) : StL g H' := by
  obtain ⟨c', a, b⟩ := h
  exact ⟨c', k _ _ (fun _ z => by cases z) (fun _ z => by cases z) a, k _ _ (fun _ z => by cases z) (fun _ z => by cases z) b⟩
theorem dep_ints {H : Hp} : ∀ {xs : List V} {ss : List Fm}, Vr (arD H) xs ss → xs = (ss.map fun s => ((dep s : Nat) : Int)).map V.int
  | [], [], _ => rfl
  | v :: vs, s :: ss, ⟨h, t⟩ => by rw [show v = _ from h, dep_ints t]; rfl
theorem dep_max {t : Fm} {m : Int} (h0 : ((kids t).map fun s => ((dep s : Nat) : Int)) = [] → m = 0) (h1 : ((kids t).map fun s => ((dep s : Nat) : Int)) ≠ [] → m ∈ ((kids t).map fun s => ((dep s : Nat) : Int)) ∧ ∀ y ∈ ((kids t).map fun s => ((dep s : Nat) : Int)), y ≤ m) : 1 + m = ((dep t : Nat) : Int) := by
  cases t with
  | leaf h => rw [h0 rfl]; rfl
  | un h f =>
    obtain ⟨a, b⟩ := h1 (by simp [kids])
    simp only [kids, List.map_cons, List.map_nil, List.mem_singleton] at a
    rw [a, dep]
    omega
  | bin h f g =>
    obtain ⟨a, b⟩ := h1 (by simp [kids])
    simp only [kids, List.map_cons, List.map_nil, List.mem_cons, List.not_mem_nil, or_false] at a b
    have b1 := b _ (.inl rfl)
    have b2 := b _ (.inr rfl)
    rw [dep]
    omega
def spDep (Pt : Addr) : Sp := fun vs H Q _ => ∃ (a : Addr) (t : Fm), vs = [.ref a] ∧ Rep H a t ∧ Ok t ∧ num t ≤ 400 ∧ Tabs [(Pt, lamQ)] H ∧ ∀ H', ExtN H H' → Tabs [(Pt, lamQ)] H' → Q (.int (dep t : Nat)) H'
section
variable {P : Program} {w : World} {K : PySem.W.Frag} {mg : Str → Option Value} {base : Heap}
theorem ok_few {f g C : Addr} {fd gd : FuncData} {k : Nat} (F : Fun K "_few_above" "_few_above" sFew f fd) (T : ExcT K mg "InvalidSentence" C) {tM : Tok} (mM : mg "MOST_FREE" = some (.int 6 tM)) (G : FnOk P w K mg base CX0 k g gd ["now", "inside"] (spAb frM)) (bG : Binds K gd ["now", "inside"] []) (kG : PySem.W.keepIn K (.ref g) = true) (mG : mg "_free_above" = some (.ref g)) (ml : mg "len" = none) :
    FnOk P w K mg base (L2.CX P w) (k + 1) f fd ["now", "inside"] (spAb (fewM C)) := by
  refine F.okX scFew (fun vs H Q E h => ?_) (fun cdv A outer s H vs Q E hr h => ?_)
  · obtain ⟨c, s, p, xs, rfl, _⟩ := h
    rfl
  obtain ⟨c, t, p, xs, rfl, hR, ho, hc, hn, hp, hx, hgk, q, qE⟩ := h
  refine ⟨_, pss_cons (ps_set (i := 2) scFew.nd rfl (Or.inl rfl) (pe_call G hr (by rfl) mG kG bG .nil pass0 (pa_cons (pv 0) (pa_cons (pv 1) pa_nil))))
    (pss_cons (ps_if (pt_cmpR op_gt (pe_callB call_len_seq (by rfl) ml PySem.boot_len (pa_cons (pv 2) pa_nil)) (pe_glob (by rfl) mM (v := .int 6) ⟨_, rfl⟩) (nomark _))
      (pss_one (ps_raise rfl (takes_of rfl rfl rfl rfl) (pmk_own PySem.F.excBase_ValueError T.x T.g T.k (raises_own T.b T.t) rfl))) pss_nil)
    (pss_one (ps_ret (pv 2)))), ?_⟩
  refine ⟨_, rfl, _, rfl, c, t, p, xs, rfl, hR, ho, hc, hn, hp, hx, fun _ _ => True.intro, fun _ v H1 g1 a1 f1 => ?_, fun z => absurd True.intro z⟩
  have a2 := a1
  obtain ⟨p1, L, rfl, e1, fr⟩ := a2
  have hfew := fr.few
  refine ⟨_, rfl, p1, _, rfl, .inl (SqL.of e1), _, _, rfl, rfl, _, rfl, ?_⟩
  rw [List.length_map]
  by_cases h6 : L.length ≤ 6
  · rw [decide_eq_false (by omega)]
    refine iteF' ?_
    exact ⟨_, rfl, q (show (once (Fv t)).length ≤ 6 by omega) _ _ g1 a1 f1⟩
  · rw [decide_eq_true (by omega)]
    refine iteT' ?_
    exact qE (fun z => h6 (by have : (once (Fv t)).length ≤ 6 := z; omega)) _ g1
theorem ok_free {f g b : Addr} {fd bd : FuncData} {k : Nat} (F : Fun K "free_variables" "free_variables" sFree f fd) (B : FnOk P w K mg base CX0 k b bd ["whole", "above"] (fun vs H Q _ => spBuilt frM (fun g' _ => g' = g) vs H Q E0)) (bB : Binds K bd ["whole", "above"] []) (kB : PySem.W.keepIn K (.ref b) = true) (mB : mg "built" = some (.ref b)) (mG : mg "_free_above" = some (.ref g)) :
    FnOk P w K mg base CX0 (k + 1) f fd ["formula"] spFree := by
  refine F.ok scFree (fun vs H Q E h => ?_) (fun cdv A outer s H vs Q E hr h => ?_)
  · obtain ⟨a, t, rfl, _⟩ := h
    rfl
  obtain ⟨a, t, rfl, hR, ho, hc, hn, q⟩ := h
  refine ⟨_, pss_one (ps_ret (pe_call B hr (by rfl) mB kB bB .nil pass0 (pa_cons (pv 0) (pa_cons (pe_glob (by rfl) mG (v := .ref g) rfl) pa_nil)))), ?_⟩
  exact ⟨_, rfl, a, t, g, rfl, hR, ho, hc, fun s hs => Nat.le_trans (nn_parts hs) hn, rfl, fun _ v H' g1 a1 _ => q v H' g1 a1, fun z => absurd (fun _ _ => True.intro) z⟩
theorem callR_lam {X : Cx} {k : Nat} {E : XK} (hP : X.prog = P) (hr : Room (k + 1) X.A) (hN : X.N[1]? = some ("above" : Str)) (hv : Vis X.env.scope "above") (hmm : X.mg "max" = none) : CallR X dM StL E := fun e es p pos t ha he hpl =>
  pe_imp (pe_callLam (i := 1) (k := k) (q := lamQ) (params := lamP lam) (body := lamB lam) (scope := lamS lam) (sp := fun vs H Q _ => spAb dM vs H Q E0) scLam (fun vs H Q E h => by obtain ⟨c, s, p, xs, rfl, _⟩ := h; rfl) (fun pm cv ctv us h => by
      match us, h with
      | [u, v], _ => rfl) (fun f c' A outer s H vs Q hr2 h => by
      refine ⟨_, pe_op op_add pe_int (pe_callBK (cr_maxDf rfl) (by rfl) hmm (by decide +kernel) (pa_cons (pv 1) pa_nil) (pk_cons pe_int pk_nil)), ?_⟩
      obtain ⟨c, t, p, xs, rfl, hR, ho, hc, hn, hp, hx, hgk, q, _⟩ := h
      have hxs := dep_ints (H := H) hx
      rw [hxs] at hp
      refine ⟨_, rfl, p, _, 0, rfl, rfl, SqL.of hp, fun m h0 h1 => ⟨_, _, rfl, rfl, ?_⟩⟩
      exact q True.intro _ _ (Same.refl H) (congrArg V.int (dep_max h0 h1)) fun b e => by cases e) hr hN hv ha (by decide) (by decide) he hpl) fun σ H Q ⟨g', hs, e1, ht⟩ => by
    have e1' := e1
    obtain ⟨c', a, b⟩ := e1'
    refine ⟨g', hs, ⟨c', a⟩, ?_⟩
    have e : (fun vs H1 => ∃ c', H1 g' = some (FunO g' lamQ (lamP lam) (lamB lam) (lamS lam) c') ∧ H1 c' = some (CodeO c' lamQ) ∧ spAb dM vs H1 Q E0) = fun vs H1 => StL g' H1 ∧ spAb dM vs H1 Q E := by
      funext vs H1
      refine propext ⟨fun ⟨c', a, b, c⟩ => ⟨⟨c', a, b⟩, ?_⟩, fun ⟨⟨c', a, b⟩, c⟩ => ⟨c', a, b, ?_⟩⟩
      · obtain ⟨c, t, p, xs, h1, h2, h3, h4, h5, h6, h7, h8, q, _⟩ := c
        exact ⟨c, t, p, xs, h1, h2, h3, h4, h5, h6, h7, h8, q, fun z => absurd True.intro z⟩
      · obtain ⟨c, t, p, xs, h1, h2, h3, h4, h5, h6, h7, h8, q, _⟩ := c
        exact ⟨c, t, p, xs, h1, h2, h3, h4, h5, h6, h7, h8, q, fun z => absurd True.intro z⟩
    rw [e]
    exact ht
theorem ok_dep {f b c Pt : Addr} {fd bd : FuncData} {k : Nat} (F : FunC K "depth" "depth" sDep f fd c) (TB : TabB base mg c Pt) (B : FnOk P w K mg base CX0 k b bd ["whole", "above"] (fun vs H Q _ => spBuilt dM StL vs H Q E0)) (bB : Binds K bd ["whole", "above"] []) (kB : PySem.W.keepIn K (.ref b) = true) (mB : mg "built" = some (.ref b)) :
    FnOk P w K mg base CX0 (k + 1) f fd ["formula"] (spDep Pt) := by
  refine F.ok scDep (fun vs H Q E h => ?_) (fun A outer s H vs Q E hr h => ?_)
  · obtain ⟨a, t, rfl, _⟩ := h
    rfl
  obtain ⟨a, t, rfl, hR, ho, hc, hT, q⟩ := h
  refine ⟨_, pss_one (ps_ret (pe_call B hr (by rfl) mB kB bB .nil pass0 (pa_cons (pv 0) (pa_cons
    (pe_lamV (T := [(Pt, lamQ)]) TB rfl rfl (List.mem_singleton.mpr rfl) (fun p hp _ => congrArg (·.2) (List.mem_singleton.mp hp)) rfl (by decide +kernel)) pa_nil)))), ?_⟩
  refine ⟨_, rfl, hT, fun H1 g c' e1 t1 hg _ hc' => ?_⟩
  have g2 := same_new (o := FunO g lamQ (lamP lam) (lamB lam) (lamS lam) c') hg
  have kt : KeepT H H1 := fun b xs e => e1 b _ e fun _ z => by cases z
  refine ⟨a, t, g, rfl, hR.keepT (kt.trans (KeepT.of g2)), ho, hc, fun _ _ => True.intro, ⟨c', upd_same, g2 _ _ hc'⟩, fun _ v H' g3 a3 _ => ?_, fun z => absurd (fun _ _ => True.intro) z⟩
  obtain rfl : v = _ := a3
  exact q H' (e1.trans (ExtN.of (g2.trans g3))) (t1.ext (g2.trans g3))
end
end K03

set_option Elab.async false
set_option linter.all false
set_option maxRecDepth 100000
set_option maxHeartbeats 2000000
namespace K03
open PySem PySem.Spec PyProof.Rows L2 XS XCS XL LamX XM
/-! ### _check_words, check_formula, check_sentence -/
def wok (two : Bool) (ls : List Str) : List Key → Bool
  | .inr w :: .inr a :: _ => !decide (w = "label") || decide (a ∈ ls)
  | .inr w :: .inl k :: _ => !decide (w = "child") || decide (0 ≤ k ∧ k < (if two then 2 else 1))
  | _ => true
theorem KindAt.keepT {H H' : Hp} {k : Addr} {two : Bool} {ls : List Str} (g : KeepT H H') (h : KindAt H k two ls) : KindAt H' k two ls := by
  obtain ⟨lab, a, b, c⟩ := h
  exact ⟨lab, g _ _ a, g _ _ b, c⟩
theorem ExtN.keepT {H H' : Hp} (e : ExtN H H') : KeepT H H' := fun b xs h => e b _ h fun _ z => by cases z
/-- what follows from the word -/
theorem word_at {t : Fm} {w : Str} {r : List Key} (ok : Ok t) (eh : t.hd = .inr w :: r) : (w = "label" → ∃ a x : Str, t = .leaf [.inr "label", .inr a, .inr x]) ∧ (w = "child" → ∃ (k : Nat) (x y : Str), t = .leaf [.inr "child", .inl (k : Int), .inr x, .inr y]) ∧ (w ≠ "label" → w ≠ "child" → ∀ two ls, wok two ls t.hd = true) := by
  refine ⟨fun e => ?_, fun e => ?_, fun n1 n2 two ls => ?_⟩
  · subst e
    cases t with
    | leaf h =>
      have eh' : h = _ := eh
      rcases ok with ⟨a, x, e⟩ | ⟨k, x, y, e⟩ | ⟨w', ns, e, hw', hn⟩
      · exact ⟨a, x, by rw [e]⟩
      · rw [e] at eh'
        cases eh'
      · rw [e] at eh'
        cases eh'
        exact absurd hw' (by decide +kernel)
    | un h f =>
      have eh' : h = _ := eh
      rcases ok.1 with e | ⟨q, x, e, hq⟩
      · rw [e] at eh'
        cases eh'
      · rw [e] at eh'
        cases eh'
        exact absurd hq (by decide +kernel)
    | bin h f g =>
      have eh' : h = _ := eh
      obtain ⟨w', e, hw'⟩ := ok.1
      rw [e] at eh'
      cases eh'
      exact absurd hw' (by decide +kernel)
  · subst e
    cases t with
    | leaf h =>
      have eh' : h = _ := eh
      rcases ok with ⟨a, x, e⟩ | ⟨k, x, y, e⟩ | ⟨w', ns, e, hw', hn⟩
      · rw [e] at eh'
        cases eh'
      · exact ⟨k, x, y, by rw [e]⟩
      · rw [e] at eh'
        cases eh'
        exact absurd hw' (by decide +kernel)
    | un h f =>
      have eh' : h = _ := eh
      rcases ok.1 with e | ⟨q, x, e, hq⟩
      · rw [e] at eh'
        cases eh'
      · rw [e] at eh'
        cases eh'
        exact absurd hq (by decide +kernel)
    | bin h f g =>
      have eh' : h = _ := eh
      obtain ⟨w', e, hw'⟩ := ok.1
      rw [e] at eh'
      cases eh'
      exact absurd hw' (by decide +kernel)
  · rw [eh]
    cases r with
    | nil => rfl
    | cons x r =>
      cases x with
      | inl k =>
        show (!decide (w = "child") || _) = true
        rw [decide_eq_false n2]
        rfl
      | inr a =>
        show (!decide (w = "label") || _) = true
        rw [decide_eq_false n1]
        rfl
abbrev sWords : Stmt := top 24
abbrev sCF : Stmt := top 23
abbrev sCS : Stmt := top 26
theorem scWords : FnScope ["kind", "now", "ways", "labels"] ["kind", "now"] (defScope sWords) := ⟨rfl, rfl, rfl, by decide +kernel, rfl, by decide +kernel, by decide +kernel⟩
theorem scCF : FnScope ["kind", "formula", "now"] ["kind", "formula"] (defScope sCF) := ⟨rfl, rfl, rfl, by decide +kernel, rfl, by decide +kernel, by decide +kernel⟩
theorem scCS : FnScope ["kind", "formula"] ["kind", "formula"] (defScope sCS) := ⟨rfl, rfl, rfl, by decide +kernel, rfl, by decide +kernel, by decide +kernel⟩
def spWords (C : Addr) : Sp := fun vs H Q E => ∃ (k c : Addr) (two : Bool) (ls : List Str) (t : Fm), vs = [.ref k, .ref c] ∧ KindAt H k two ls ∧ Rep H c t ∧ Ok t ∧ (wok two ls t.hd = true → Q .non H) ∧ (wok two ls t.hd = false → E (.ref C) none H)
def GoodF (two : Bool) (ls : List Str) (t : Fm) : Prop := dep t ≤ 40 ∧ (∀ s ∈ parts t, wok two ls s.hd = true) ∧ ∀ s ∈ parts t, fewG s
def spCF (Pt C : Addr) : Sp := fun vs H Q E => ∃ (k a : Addr) (two : Bool) (ls : List Str) (t : Fm), vs = [.ref k, .ref a] ∧ KindAt H k two ls ∧ Rep H a t ∧ Ok t ∧ num t ≤ 400 ∧ nn t ≤ 63 ∧ Tabs [(Pt, lamQ)] H ∧
  (GoodF two ls t → ∀ H', ExtN H H' → Tabs [(Pt, lamQ)] H' → Q .non H') ∧ (¬ GoodF two ls t → ∀ H', ExtN H H' → Tabs [(Pt, lamQ)] H' → E (.ref C) none H')
def spCS (Pt C : Addr) : Sp := fun vs H Q E => ∃ (k a : Addr) (two : Bool) (ls : List Str) (t : Fm), vs = [.ref k, .ref a] ∧ KindAt H k two ls ∧ Rep H a t ∧ Ok t ∧ num t ≤ 400 ∧ nn t ≤ 63 ∧ Tabs [(Pt, lamQ)] H ∧
  (GoodF two ls t ∧ Fv t = [] → ∀ H', ExtN H H' → Tabs [(Pt, lamQ)] H' → Q .non H') ∧ (¬ (GoodF two ls t ∧ Fv t = []) → ∀ H', ExtN H H' → Tabs [(Pt, lamQ)] H' → E (.ref C) none H')
section
variable {P : Program} {w : World} {K : PySem.W.Frag} {mg : Str → Option Value} {base : Heap}
theorem ok_words {f C : Addr} {fd : FuncData} {k : Nat} (F : Fun K "_check_words" "_check_words" sWords f fd) (T : ExcT K mg "InvalidSentence" C) : FnOk P w K mg base (L2.CX P w) (k + 1) f fd ["kind", "now"] (spWords C) := by
  refine F.okX scWords (fun vs H Q E h => ?_) (fun cdv A outer s H vs Q E hr h => ?_)
  · obtain ⟨k, c, two, ls, t, rfl, _⟩ := h
    rfl
  obtain ⟨k, c, two, ls, t, rfl, hK, hR, ho, q, qE⟩ := h
  refine ⟨_, pss_cons (ps_asg (pv 0) (pg_tup (by rfl) (pgs_cons (pg_name (i := 2) scWords.nd rfl (.inl rfl)) (pgs_cons (pg_name (i := 3) scWords.nd rfl (.inl rfl)) pgs_nil))))
    (pss_cons (ps_if (PW.pt (pw_and (pt_cmpR op_eq (pe_ix ix_tup (pv 1) pe_int (fun _ _ => rfl)) pe_str (nomark _)) (pw_and1 (pt_cmpR op_notIn_seq (pe_ix ix_tup (pv 1) pe_int (fun _ _ => rfl)) (pv 3) (by with_unfolding_all rfl)))))
      (pss_one (ps_raise rfl (takes_of rfl rfl rfl rfl) (pmk_own PySem.F.excBase_ValueError T.x T.g T.k (raises_own T.b T.t) rfl))) pss_nil)
    (pss_one (ps_if (PW.pt (pw_and (pt_cmpR op_eq (pe_ix ix_tup (pv 1) pe_int (fun _ _ => rfl)) pe_str (nomark _)) (pw_and1 (pt_not (pt_chain op_le op_lt pe_int (pe_ix ix_tup (pv 1) pe_int (fun _ _ => rfl)) (pv 2))))))
      (pss_one (ps_raise rfl (takes_of rfl rfl rfl rfl) (pmk_own PySem.F.excBase_ValueError T.x T.g T.k (raises_own T.b T.t) rfl))) pss_nil))), ?_⟩
  obtain ⟨lab, ek, el, hls⟩ := hK
  obtain ⟨cs, ex, al⟩ := hR.tup
  obtain ⟨wd, r, eh, har, hop, hm, hl4⟩ := head_of ho
  obtain ⟨w1, w2, w3⟩ := word_at ho eh
  have h0 : (t.hd.map kV ++ cs.map V.ref)[0]? = some (.str wd) := by rw [eh]; rfl
  refine ⟨_, rfl, k, _, rfl, SqT.of ek, rfl, _, _, rfl, _, _, rfl, rfl, ?_⟩
  refine ⟨_, rfl, c, _, 0, _, rfl, rfl, SqT.of ex, atI_nat (j := 0) h0, rfl, _, rfl, ?_⟩
  have nolab : wd ≠ "label" → decide (V.str wd = V.str "label") = false := fun n => decide_eq_false fun z => n (by injection z)
  have nochd : wd ≠ "child" → decide (V.str wd = V.str "child") = false := fun n => decide_eq_false fun z => n (by injection z)
  by_cases h1 : wd = "label"
  · obtain ⟨a, x, rfl⟩ := w1 h1
    have hx1 : ((Fm.leaf [.inr "label", .inr a, .inr x]).hd.map kV ++ cs.map V.ref)[1]? = some (.str a) := rfl
    subst h1
    rw [decide_eq_true rfl]
    refine iteT' ?_
    refine ⟨_, rfl, c, _, 1, _, rfl, rfl, SqT.of ex, atI_nat (j := 1) hx1, _, rfl, lab, _, rfl, .inr (SqT.of el), rfl, flat_strs _, _, rfl, ?_⟩
    rw [inV_str]
    by_cases ha : a ∈ ls
    · rw [decide_eq_true ha]
      refine iteNT ?_
      refine ⟨_, rfl, c, _, 0, _, rfl, rfl, SqT.of ex, atI_nat (j := 0) h0, rfl, _, rfl, ?_⟩
      refine iteF' (iteF' (q ?_))
      show (!decide ((Str.ofString "label") = Str.ofString "label") || decide (a ∈ ls)) = true
      rw [decide_eq_true ha]
      simp
    · rw [decide_eq_false ha]
      refine iteNF (qE ?_)
      show (!decide ((Str.ofString "label") = Str.ofString "label") || decide (a ∈ ls)) = false
      rw [decide_eq_false ha]
      simp
  · rw [nolab h1]
    refine iteF' (iteF' ?_)
    refine ⟨_, rfl, c, _, 0, _, rfl, rfl, SqT.of ex, atI_nat (j := 0) h0, rfl, _, rfl, ?_⟩
    by_cases h2 : wd = "child"
    · obtain ⟨i, x, y, rfl⟩ := w2 h2
      have hx1 : ((Fm.leaf [.inr "child", .inl (i : Int), .inr x, .inr y]).hd.map kV ++ cs.map V.ref)[1]? = some (.int (i : Int)) := rfl
      subst h2
      rw [decide_eq_true rfl]
      refine iteT' ?_
      have hi : decide ((0 : Int) ≤ (i : Int)) = true := decide_eq_true (by omega)
      refine ⟨_, rfl, c, _, 1, _, rfl, rfl, SqT.of ex, atI_nat (j := 1) hx1, _, _, rfl, rfl, true, congrArg V.bl hi, iteT' ⟨_, rfl, _, _, rfl, rfl, _, rfl, ?_⟩⟩
      have ew : wok two ls [.inr "child", .inl (i : Int), .inr x, .inr y] = decide ((i : Int) < if two = true then 2 else 1) := by
        show (!decide ((Str.ofString "child") = Str.ofString "child") || decide ((0 : Int) ≤ (i : Int) ∧ (i : Int) < if two = true then 2 else 1)) = _
        rw [decide_eq_true rfl]
        by_cases z : (i : Int) < if two = true then 2 else 1
        · rw [decide_eq_true z, decide_eq_true ⟨by omega, z⟩]
          rfl
        · rw [decide_eq_false z, decide_eq_false fun y => z y.2]
          rfl
      have ew' : wok two ls (Fm.leaf [.inr "child", .inl (i : Int), .inr x, .inr y]).hd = _ := ew
      cases z : decide ((i : Int) < if two = true then 2 else 1) with
      | true => exact iteNT (q (ew'.trans z))
      | false => exact iteNF (qE (ew'.trans z))
    · rw [nochd h2]
      exact iteF' (iteF' (q (w3 h1 h2 two ls)))
theorem ok_cf {f gk gd ga gw gb ge C Pt : Addr} {fd fk fdd fa fw fb : FuncData} {k : Nat} (F : Fun K "check_formula" "check_formula" sCF f fd) (T : ExcT K mg "InvalidSentence" C) {tM : Tok} (mM : mg "MOST_DEEP" = some (.int 40 tM))
    (Gk : FnOk P w K mg base CX0 k gk fk ["kind"] spCheck) (bk : Binds K fk ["kind"] []) (kk : PySem.W.keepIn K (.ref gk) = true) (mk : mg "check_kind" = some (.ref gk))
    (Gd : FnOk P w K mg base CX0 k gd fdd ["formula"] (spDep Pt)) (bd : Binds K fdd ["formula"] []) (kd : PySem.W.keepIn K (.ref gd) = true) (md : mg "depth" = some (.ref gd))
    (Ga : FnOk P w K mg base CX0 k ga fa ["whole"] spAllP) (ba : Binds K fa ["whole"] []) (ka : PySem.W.keepIn K (.ref ga) = true) (ma : mg "all_parts" = some (.ref ga))
    (Gw : FnOk P w K mg base (L2.CX P w) k gw fw ["kind", "now"] (spWords C)) (bw : Binds K fw ["kind", "now"] []) (kw : PySem.W.keepIn K (.ref gw) = true) (mw : mg "_check_words" = some (.ref gw))
    (Gb : FnOk P w K mg base (L2.CX P w) k gb fb ["whole", "above"] (spBuilt (fewM C) (fun g' _ => g' = ge))) (bb : Binds K fb ["whole", "above"] []) (kb : PySem.W.keepIn K (.ref gb) = true) (mb : mg "built" = some (.ref gb)) (me : mg "_few_above" = some (.ref ge)) :
    FnOk P w K mg base (L2.CX P w) (k + 1) f fd ["kind", "formula"] (spCF Pt C) := by
  refine F.okX scCF (fun vs H Q E h => ?_) (fun cdv A outer s H vs Q E hr h => ?_)
  · obtain ⟨k, a, two, ls, t, rfl, _⟩ := h
    rfl
  obtain ⟨k, a, two, ls, t, rfl, hK, hR, ho, hc, hn, hT, q, qE⟩ := h
  refine ⟨_, pss_cons (ps_expr (pe_call Gk hr (by rfl) mk kk bk .nil pass0 (pa_cons (pv 0) pa_nil)))
    (pss_cons (ps_if (pt_cmpR op_gt (pe_call Gd hr (by rfl) md kd bd .nil pass0 (pa_cons (pv 1) pa_nil)) (pe_glob (by rfl) mM (v := .int 40) ⟨_, rfl⟩) (nomark _))
      (pss_one (ps_raise rfl (takes_of rfl rfl rfl rfl) (pmk_own PySem.F.excBase_ValueError T.x T.g T.k (raises_own T.b T.t) rfl))) pss_nil)
    (pss_cons (ps_for (passes_of rfl) rfl (pi_list (pe_call Ga hr (by rfl) ma ka ba .nil pass0 (pa_cons (pv 1) pa_nil))) (pg_name (i := 2) scCF.nd rfl (Or.inl rfl))
      (pss_one (ps_expr (pe_call Gw hr (by rfl) mw kw bw .nil (passes_call (takes_of rfl rfl rfl rfl) fun _ _ _ _ h => h) (pa_cons (pv 0) (pa_cons (pv 2) pa_nil))))))
    (pss_one (ps_expr (pe_call Gb hr (by rfl) mb kb bb .nil (passes_call (takes_of rfl rfl rfl rfl) fun _ _ _ _ h => h) (pa_cons (pv 1) (pa_cons (pe_glob (by rfl) me (v := .ref ge) rfl) pa_nil))))))), ?_⟩
  refine ⟨_, rfl, k, two, ls, rfl, hK, fun H1 g1 => ?_⟩
  refine ⟨_, rfl, a, t, rfl, hR.same g1, ho, hc, hT.ext g1, fun H2 e2 t2 => ⟨_, _, rfl, rfl, _, rfl, ?_⟩⟩
  have e02 : ExtN H H2 := (ExtN.of g1).trans e2
  have k02 := ExtN.keepT e02
  by_cases hd : dep t ≤ 40
  · rw [decide_eq_false (by omega)]
    refine iteF' ?_
    refine ⟨_, rfl, a, t, rfl, hR.keepT k02, ho, hc, fun H3 ql as g3 eq rq => ⟨ql, rfl, ⟨_, SqL.of eq⟩, ?_⟩⟩
    have e03 := e02.trans (ExtN.of g3)
    have k03 := ExtN.keepT e03
    have t3 := t2.ext g3
    refine for_list (xs := as.map V.ref) (fun i σ H4 => ∃ y : Option V, σ = [some (.ref k), some (.ref a), y] ∧ H4 = H3 ∧ ∀ s ∈ (parts t).take i, wok two ls s.hd = true) ⟨none, rfl, rfl, fun s hs => by simp at hs⟩ (fun i σ H4 hi p => ?_) (fun i x σ H4 hx p => ?_) fun σ H4 p => ?_
    · obtain ⟨y, rfl, rfl, _⟩ := p
      exact SqL.of eq
    · obtain ⟨y, rfl, rfl, al⟩ := p
      rw [List.getElem?_map] at hx
      obtain ⟨c, hc1, rfl⟩ : ∃ c, as[i]? = some c ∧ x = .ref c := by
        cases z : as[i]? with
        | none => rw [z] at hx; cases hx
        | some c => rw [z] at hx; exact ⟨c, rfl, (Option.some.inj hx).symm⟩
      obtain ⟨s', hs', rc⟩ := rq.get hc1
      have hos := ok_parts' ho s' (List.mem_of_getElem? hs')
      refine ⟨_, rfl, _, rfl, k, c, two, ls, s', rfl, hK.keepT k03, rc, hos.1, fun hw => ⟨_, rfl, rfl, fun s hs => ?_⟩, fun hw => ?_⟩
      · rw [List.take_add_one, hs', Option.toList_some] at hs
        rcases List.mem_append.mp hs with hs | hs
        · exact al s hs
        · rw [List.mem_singleton.mp hs]
          exact hw
      · refine qE (fun z => ?_) _ e03 t3
        have := z.2.1 s' (List.mem_of_getElem? hs')
        rw [hw] at this
        cases this
    · obtain ⟨y, rfl, rfl, al⟩ := p
      rw [List.length_map, rq.len, List.take_length] at al
      refine ⟨_, rfl, a, t, ge, rfl, hR.keepT k03, ho, hc, fun s hs => Nat.le_trans (nn_parts hs) hn, rfl, fun hg v H5 g5 _ _ => ?_, fun hg H5 g5 => ?_⟩
      · exact q ⟨hd, al, hg⟩ H5 (e03.trans (ExtN.of g5)) (t3.ext g5)
      · exact qE (fun z => hg z.2.2) H5 (e03.trans (ExtN.of g5)) (t3.ext g5)
  · rw [decide_eq_true (by omega)]
    refine iteT' ?_
    exact qE (fun z => hd z.1) H2 e02 t2
theorem ok_cs {f gc gf C Pt : Addr} {fd fc ff : FuncData} {k : Nat} (F : Fun K "check_sentence" "check_sentence" sCS f fd) (T : ExcT K mg "InvalidSentence" C)
    (Gc : FnOk P w K mg base (L2.CX P w) k gc fc ["kind", "formula"] (spCF Pt C)) (bc : Binds K fc ["kind", "formula"] []) (kc : PySem.W.keepIn K (.ref gc) = true) (mc : mg "check_formula" = some (.ref gc))
    (Gf : FnOk P w K mg base CX0 k gf ff ["formula"] spFree) (bf : Binds K ff ["formula"] []) (kf : PySem.W.keepIn K (.ref gf) = true) (mf : mg "free_variables" = some (.ref gf)) :
    FnOk P w K mg base (L2.CX P w) (k + 1) f fd ["kind", "formula"] (spCS Pt C) := by
  refine F.okX scCS (fun vs H Q E h => ?_) (fun cdv A outer s H vs Q E hr h => ?_)
  · obtain ⟨k, a, two, ls, t, rfl, _⟩ := h
    rfl
  obtain ⟨k, a, two, ls, t, rfl, hK, hR, ho, hc, hn, hT, q, qE⟩ := h
  refine ⟨_, pss_cons (ps_expr (pe_call Gc hr (by rfl) mc kc bc .nil (passes_call (takes_of rfl rfl rfl rfl) fun _ _ _ _ h => h) (pa_cons (pv 0) (pa_cons (pv 1) pa_nil))))
    (pss_one (ps_if (pt_truth (pe_call Gf hr (by rfl) mf kf bf .nil pass0 (pa_cons (pv 1) pa_nil)) (fun _ => rfl))
      (pss_one (ps_raise rfl (takes_of rfl rfl rfl rfl) (pmk_own PySem.F.excBase_ValueError T.x T.g T.k (raises_own T.b T.t) rfl))) pss_nil)), ?_⟩
  refine ⟨_, rfl, _, rfl, k, a, two, ls, t, rfl, hK, hR, ho, hc, hn, hT, fun hg H1 e1 t1 => ?_, fun hg H1 e1 t1 => qE (fun z => hg z.1) H1 e1 t1⟩
  refine ⟨_, rfl, a, t, rfl, hR.keepT (ExtN.keepT e1), ho, hc, hn, fun v H2 g2 a2 => ?_⟩
  obtain ⟨p, L, rfl, ep, fr⟩ := a2
  refine ⟨_, .inl ⟨_, SqL.of ep, rfl⟩, ?_⟩
  have e2 := e1.trans (ExtN.of g2)
  have t2 := t1.ext g2
  cases L with
  | nil =>
    refine iteF' (q ⟨hg, ?_⟩ H2 e2 t2)
    exact List.eq_nil_iff_forall_not_mem.mpr fun x hx => absurd ((fr.m x).mpr hx) (by simp)
  | cons x L =>
    refine iteT' (qE (fun z => ?_) H2 e2 t2)
    have := (fr.m x).mp (by simp)
    rw [z.2] at this
    simp at this
end
end K03

set_option Elab.async false
set_option linter.all false
set_option maxRecDepth 100000
set_option maxHeartbeats 4000000
namespace K03
open PySem PySem.Spec PyProof.Rows L2 XS XCS XL LamX XM
/-! ### _law_atom -/
def PN : List Str := ["x", "y", "u", "z", "X", "Y2"]
theorem pn_ok : ∀ x ∈ PN, PyData.strOk x = true := by decide +kernel
theorem shaped_list {ds : List PyData} (h : ∀ d ∈ ds, d.canLay0 = true ∧ d.depth ≤ 55) : SeqAt.shaped (.list ds) = true := by
  have h1 : PyData.canLayAll0 ds = true := by
    induction ds with
    | nil => rfl
    | cons d r ih => simp [PyData.canLayAll0, (h d (by simp)).1, ih fun q m => h q (by simp [m])]
  have h2 : PyData.depthAll ds ≤ 56 := by
    induction ds with
    | nil => simp [PyData.depthAll]
    | cons d r ih =>
      have a := (h d (by simp)).2
      have b := ih (fun q m => h q (by simp [m])) (by simp [PyData.canLayAll0] at h1; exact h1.2)
      simp only [PyData.depthAll]
      omega
  unfold SeqAt.shaped
  simp only [PyData.canLay0, h1, PyData.depth, Bool.true_and]
  exact decide_eq_true (by omega)
theorem strs_dall {K : PySem.W.Frag} {H : Hp} : ∀ xs : List Str, DpAll K H (xs.map V.str) (xs.map PyData.str)
  | [] => .nil
  | x :: xs => .cons (.str x) (strs_dall xs)
theorem strs_shaped {xs : List Str} (h : ∀ x ∈ xs, PyData.strOk x = true) : SeqAt.shaped (.list (xs.map PyData.str)) = true := shaped_list fun d hd => by
  obtain ⟨x, hx, rfl⟩ := List.mem_map.mp hd
  exact ⟨h x hx, by simp [PyData.depth]⟩
theorem eqv_nil (xs : List Str) : PyData.eqv (.list (xs.map PyData.str)) (.list []) = decide (xs = []) := by
  cases xs with
  | nil => rfl
  | cons x r => rw [decide_eq_false (by simp)]; rfl
theorem eq_nil {K : PySem.W.Frag} {H : Hp} {s e : Addr} {xs : List Str} {Q : VK} (hs : H s = some (.lst (xs.map V.str))) (he : H e = some (.lst [])) (hx : ∀ x ∈ xs, x ∈ PN) (q : Q (.bl (decide (xs = []))) H) : rEqD K (.ref s) (.ref e) H Q :=
  ⟨.list (xs.map .str), .list [], .lst (SqL.of hs) (strs_dall xs), .lst (SqL.of he) .nil, strs_shaped fun x h => pn_ok x (hx x h), rfl, by rw [eqv_nil]; exact q⟩
theorem ne_nil {K : PySem.W.Frag} {H : Hp} {s e : Addr} {xs : List Str} {Q : VK} (hs : H s = some (.lst (xs.map V.str))) (he : H e = some (.lst [])) (hx : ∀ x ∈ xs, x ∈ PN) (q : Q (.bl (!decide (xs = []))) H) : rNeD K (.ref s) (.ref e) H Q :=
  ⟨.list (xs.map .str), .list [], .lst (SqL.of hs) (strs_dall xs), .lst (SqL.of he) .nil, strs_shaped fun x h => pn_ok x (hx x h), rfl, by rw [eqv_nil]; exact q⟩
theorem TapeOk.neL {H : Hp} {t a : Addr} {xs : List V} (h : TapeOk H t) (e : H a = some (.lst xs)) : a ≠ t := by
  obtain ⟨kvs, c, T⟩ := h
  intro z
  rw [z, T.dict] at e
  cases e
theorem pickI {xs : List Str} {z : Int} (h0 : 0 ≤ z) (h1 : z < ((xs.map V.str).length : Nat)) : ∃ x ∈ xs, atI (xs.map V.str) z = some (.str x) := by
  obtain ⟨n, rfl⟩ := Int.eq_ofNat_of_zero_le h0
  rw [List.length_map] at h1
  have hn : n < xs.length := by omega
  exact ⟨xs[n], List.getElem_mem hn, atI_nat (j := n) (by rw [List.getElem?_map, List.getElem?_eq_getElem hn]; rfl)⟩
/-- xs[take(len(xs))] -/
theorem pick {K : PySem.W.Frag} {σ : L2.St} {H : Hp} {Q : VK} {i : Nat} {tp s : Addr} {xs : List Str} (h0 : σ[0]? = some (some (.ref tp))) (hi : σ[i]? = some (some (.ref s))) (hs : H s = some (.lst (xs.map V.str))) (T : TapeOk H tp) (hne : xs ≠ []) (hz : xs.length ≤ 1000)
    (q : ∀ H' x, But tp H H' → TapeOk H' tp → x ∈ xs → Q (.str x) H') : tOp (rIxL K) (tVar i) (tCall spTake [] E0 (tCons (tVar 0) (tCons (tCB (fun xs H Q => ∃ p ys, xs = [.ref p] ∧ (SqL K H p ys ∨ SqT K H p ys) ∧ Q (.int ys.length) H) (tCons (tVar i) tNil)) tNil))) σ H Q := by
  have hl : 0 < xs.length := List.length_pos_iff.mpr hne
  refine ⟨_, hi, _, h0, _, hi, s, _, rfl, .inl (SqL.of hs), tp, _, rfl, T, by rw [List.length_map]; omega, by rw [List.length_map]; omega, fun H' z b T' z0 z1 => ?_⟩
  obtain ⟨x, hx, e⟩ := pickI z0 z1
  exact ⟨s, _, z, _, rfl, rfl, SqL.of (b _ _ (T.neL hs) hs), e, q H' x b T' hx⟩
theorem leafN_le {h : List Key} (ok : AtOk h) : (leafN h).length ≤ 2 := by
  obtain ⟨w, r, e⟩ : ∃ w r, h = .inr w :: r := by
    rcases ok with ⟨a, x, e⟩ | ⟨k, x, y, e⟩ | ⟨w', ns, e, hw, hn⟩ <;> exact ⟨_, _, e⟩
  exact (leaf_drop ok e).2
/-- whose texts can be laid -/
def kOk (h : List Key) : Prop := ∀ x : Str, (Sum.inr x : Key) ∈ h → PyData.strOk x = true
def SOk : Fm → Prop
  | .leaf h => kOk h
  | .un h f => kOk h ∧ SOk f
  | .bin h f g => kOk h ∧ SOk f ∧ SOk g
theorem kok_ns {w : Str} {ns : List Str} (hw : PyData.strOk w = true) (hn : ∀ x ∈ ns, PyData.strOk x = true) : kOk (.inr w :: ns.map .inr) := fun x hx => by
  rcases List.mem_cons.mp hx with e | hx
  · cases e
    exact hw
  · obtain ⟨y, hy, e⟩ := List.mem_map.mp hx
    cases e
    exact hn _ hy
/-- made of the tape -/
def Made (tp : Addr) (H : Hp) (N B : Nat) (Q : VK) : Prop := ∀ H' a t, But tp H H' → TapeOk H' tp → Rep H' a t → Ok t → SOk t → num t ≤ N → nn t ≤ B → Q (.ref a) H'
theorem made_leaf {tp : Addr} {H H9 : Hp} {Q : VK} {h : List Key} (q : Made tp H 1 2 Q) (ok : AtOk h) (so : kOk h) (b : But tp H H9) (T : TapeOk H9 tp) {vs : List V} (hv : vs = h.map kV) : vs.length ≤ sizeLine ∧ ∀ p, H9 p = none → Q (.ref p) (upd H9 p (.tup vs)) := by
  subst hv
  refine ⟨?_, fun p hp => q _ p (.leaf h) (b.trans (But.of (same_new hp))) (T.same (same_new hp)) (.leaf upd_same) ok so (by simp [num, parts]) (leafN_le ok)⟩
  rw [List.length_map]
  rcases ok with ⟨a, x, rfl⟩ | ⟨k, x, y, rfl⟩ | ⟨w', ns, rfl, hw, hn⟩
  · exact small (by show 3 ≤ 1000; decide)
  · exact small (by show 4 ≤ 1000; decide)
  · exact small (by rw [List.length_cons, List.length_map]; omega)
theorem two_ok {x y : Str} (a : PyData.strOk x = true) (b : PyData.strOk y = true) : ∀ z ∈ [x, y], PyData.strOk z = true := fun z hz => by
  rcases List.mem_cons.mp hz with rfl | hz
  · exact a
  · rw [List.mem_singleton.mp hz]
    exact b
theorem lt_ok : ∀ x ∈ LT, PyData.strOk x = true := by decide +kernel
theorem at_ns {w : Str} {ns : List Str} (hw : w ∈ (["true", "below", "same", "top", "in", "inside"] : List Str)) (hn : ns.length ≤ 2) : AtOk (.inr w :: ns.map .inr) := .inr (.inr ⟨w, ns, rfl, hw, hn⟩)
abbrev sAtom : Stmt := top 39
theorem scAtom : FnScope ["tape", "kind", "singles", "sets", "choice", "x", "y"] ["tape", "kind", "singles", "sets"] (defScope sAtom) := ⟨rfl, rfl, rfl, by decide +kernel, rfl, by decide +kernel, by decide +kernel⟩
def spAtom : Sp := fun vs H Q _ => ∃ (tp k s e : Addr) (two : Bool) (ls xs ys : List Str), vs = [.ref tp, .ref k, .ref s, .ref e] ∧ TapeOk H tp ∧ KindAt H k two ls ∧ H s = some (.lst (xs.map V.str)) ∧ H e = some (.lst (ys.map V.str)) ∧ (∀ x ∈ xs, x ∈ PN) ∧ (∀ y ∈ ys, y ∈ PN) ∧ xs ≠ [] ∧ xs.length ≤ 100 ∧ ys.length ≤ 100 ∧ Made tp H 1 2 Q
section
variable {P : Program} {w : World} {K : PySem.W.Frag} {mg : Str → Option Value} {base : Heap}
theorem ok_atom {f g : Addr} {fd gd : FuncData} {k : Nat} (F : Fun K "_law_atom" "_law_atom" sAtom f fd) (G : FnOk P w K mg base CX0 k g gd ["tape", "many"] spTake) (bG : Binds K gd ["tape", "many"] []) (kG : PySem.W.keepIn K (.ref g) = true) (mG : mg "_law_take" = some (.ref g)) (ml : mg "len" = none) :
    FnOk P w K mg base CX0 (k + 1) f fd ["tape", "kind", "singles", "sets"] spAtom := by
  refine F.ok scAtom (fun vs H Q E h => ?_) (fun cdv A outer s H vs Q E hr h => ?_)
  · obtain ⟨tp, k, s, e, two, ls, xs, ys, rfl, _⟩ := h
    rfl
  obtain ⟨tp, k, s, e, two, ls, xs, ys, rfl, T, hK, hs, he, hx, hy, hne, hz1, hz2, q⟩ := h
  refine ⟨_, pss_cons (ps_set (i := 4) scAtom.nd rfl (Or.inl rfl) (pe_call G hr (by rfl) mG kG bG .nil pass0 (pa_cons (pv 0) (pa_cons pe_int pa_nil))))
    (C8.pss_cut (ps_if (PW.pt (pw_and (pt_cmpR (op_neD hr.units) (pv 3) (pe_lst pa_nil) (nomark _)) (pw_and1 (PW.pt (pw_or (pt_cmpR op_lt (pv 4) pe_int (nomark _)) (pw_or1 (pt_cmpR (op_eqD hr.units) (pv 2) (pe_lst pa_nil) (nomark _))))))))
      (pss_cons (ps_if (PW.pt (pw_or (pt_cmpR (op_eqD hr.units) (pv 2) (pe_lst pa_nil) (nomark _)) (pw_or1 (pt_cmpR op_eq (pv 4) pe_int (nomark _)))))
        (pss_one (ps_ret (pe_tup (pa_cons pe_str (pa_cons (pe_ix ix_list (pv 3) (pe_call G hr (by rfl) mG kG bG .nil pass0 (pa_cons (pv 0) (pa_cons (pe_callB call_len_seq (by rfl) ml PySem.boot_len (pa_cons (pv 3) pa_nil)) pa_nil))) (fun _ _ => rfl)) (pa_cons (pe_ix ix_list (pv 3) (pe_call G hr (by rfl) mG kG bG .nil pass0 (pa_cons (pv 0) (pa_cons (pe_callB call_len_seq (by rfl) ml PySem.boot_len (pa_cons (pv 3) pa_nil)) pa_nil))) (fun _ _ => rfl)) pa_nil)))))) pss_nil)
      (pss_one (ps_ret (pe_tup (pa_cons pe_str (pa_cons (pe_ix ix_list (pv 2) (pe_call G hr (by rfl) mG kG bG .nil pass0 (pa_cons (pv 0) (pa_cons (pe_callB call_len_seq (by rfl) ml PySem.boot_len (pa_cons (pv 2) pa_nil)) pa_nil))) (fun _ _ => rfl)) (pa_cons (pe_ix ix_list (pv 3) (pe_call G hr (by rfl) mG kG bG .nil pass0 (pa_cons (pv 0) (pa_cons (pe_callB call_len_seq (by rfl) ml PySem.boot_len (pa_cons (pv 3) pa_nil)) pa_nil))) (fun _ _ => rfl)) pa_nil)))))))
      pss_nil)
    (pss_cons (ps_if (pt_cmpR (op_eqD hr.units) (pv 2) (pe_lst pa_nil) (nomark _)) (pss_one (ps_ret (pe_tup (pa_cons pe_str pa_nil)))) pss_nil)
    (pss_cons (ps_set (i := 5) scAtom.nd rfl (Or.inl rfl) (pe_ix ix_list (pv 2) (pe_call G hr (by rfl) mG kG bG .nil pass0 (pa_cons (pv 0) (pa_cons (pe_callB call_len_seq (by rfl) ml PySem.boot_len (pa_cons (pv 2) pa_nil)) pa_nil))) (fun _ _ => rfl)))
    (pss_cons (ps_set (i := 6) scAtom.nd rfl (Or.inl rfl) (pe_ix ix_list (pv 2) (pe_call G hr (by rfl) mG kG bG .nil pass0 (pa_cons (pv 0) (pa_cons (pe_callB call_len_seq (by rfl) ml PySem.boot_len (pa_cons (pv 2) pa_nil)) pa_nil))) (fun _ _ => rfl)))
    (pss_cons (ps_if (pt_cmpR op_lt (pv 4) pe_int (nomark _))
      (pss_one (ps_ret (pe_tup (pa_cons pe_str (pa_cons (pe_ix ix_tup (pe_ix ix_tup (pv 1) pe_int (fun _ _ => rfl)) (pe_call G hr (by rfl) mG kG bG .nil pass0 (pa_cons (pv 0) (pa_cons (pe_callB call_len_seq (by rfl) ml PySem.boot_len (pa_cons (pe_ix ix_tup (pv 1) pe_int (fun _ _ => rfl)) pa_nil)) pa_nil))) (fun _ _ => rfl)) (pa_cons (pv 5) pa_nil)))))) pss_nil)
    (pss_cons (ps_if (pt_cmpR op_eq (pv 4) pe_int (nomark _)) (pss_one (ps_ret (pe_tup (pa_cons pe_str (pa_cons (pv 5) pa_nil))))) pss_nil)
    (pss_cons (ps_if (pt_cmpR op_eq (pv 4) pe_int (nomark _)) (pss_one (ps_ret (pe_tup (pa_cons pe_str (pa_cons (pv 5) (pa_cons (pv 6) pa_nil)))))) pss_nil)
    (pss_one (ps_ret (pe_ifExp (pt_cmpR op_lt (pv 4) pe_int (nomark _))
      (pe_tup (pa_cons pe_str (pa_cons (pe_call G hr (by rfl) mG kG bG .nil pass0 (pa_cons (pv 0) (pa_cons (pe_ix ix_tup (pv 1) pe_int (fun _ _ => rfl)) pa_nil))) (pa_cons (pv 5) (pa_cons (pv 6) pa_nil)))))
      (pe_tup (pa_cons pe_str (pa_cons (pv 5) (pa_cons (pv 6) pa_nil)))))))))))))), ?_⟩
  refine ⟨_, rfl, tp, 12, rfl, T, by decide, by decide, fun H1 ch b1 T1 c0 c1 => ?_⟩
  have fS : ∀ {H'}, But tp H H' → H' s = some (.lst (xs.map V.str)) := fun b => b _ _ (T.neL hs) hs
  have fE : ∀ {H'}, But tp H H' → H' e = some (.lst (ys.map V.str)) := fun b => b _ _ (T.neL he) he
  refine ⟨fun σ' H' => σ' = [some (.ref tp), some (.ref k), some (.ref s), some (.ref e), some (.int ch), none, none] ∧ But tp H H' ∧ TapeOk H' tp, ?_, ?_⟩
  · refine ⟨_, rfl, Nat.zero_le _, fun l0 hl0 => ne_nil (same_new hl0 _ _ (fE b1)) upd_same hy ⟨_, rfl, ?_⟩⟩
    have b2 := b1.trans (But.of (same_new (o := .lst []) hl0))
    have T2 := T1.same (same_new (o := .lst []) hl0)
    generalize upd H1 l0 (.lst []) = H2 at *
    by_cases hye : ys = []
    · rw [decide_eq_true hye]
      exact iteNT (iteF' ⟨rfl, b2, T2⟩)
    · rw [decide_eq_false hye]
      refine iteNF ?_
      have inner : ∀ H3, But tp H H3 → TapeOk H3 tp → ∀ l1, H3 l1 = none → True := fun _ _ _ _ _ => True.intro
      refine ⟨_, rfl, _, _, rfl, rfl, _, rfl, ?_⟩
      by_cases h4 : ch < 4
      · rw [decide_eq_true h4]
        refine iteT' (iteT' ?_)
        refine ⟨_, rfl, Nat.zero_le _, fun l1 hl1 => eq_nil (same_new hl1 _ _ (fS b2)) upd_same hx ⟨_, rfl, ?_⟩⟩
        have b3 := b2.trans (But.of (same_new (o := .lst []) hl1))
        have T3 := T2.same (same_new (o := .lst []) hl1)
        generalize upd H2 l1 (.lst []) = H3 at *
        rw [decide_eq_false hne]
        refine iteF' ⟨_, rfl, rfl, _, rfl, ?_⟩
        by_cases h0 : ch = 0
        · rw [decide_eq_true (congrArg V.int h0)]
          refine iteT' ?_
          refine pick (xs := ys) rfl rfl (fE b3) T3 hye (by omega) fun H4 x b4 T4 hx4 => ?_
          have b34 := b3.trans b4
          refine pick (xs := ys) rfl rfl (fE b34) T4 hye (by omega) fun H5 y b5 T5 hy5 => ?_
          exact made_leaf q (at_ns (w := "inside") (ns := [x, y]) (by decide +kernel) (Nat.le_refl 2)) (kok_ns (by decide +kernel) (two_ok (pn_ok x (hy x hx4)) (pn_ok y (hy y hy5)))) (b34.trans b5) T5 rfl
        · rw [decide_eq_false fun z => h0 (by injection z)]
          refine iteF' ?_
          refine pick (xs := xs) rfl rfl (fS b3) T3 hne (by omega) fun H4 x b4 T4 hx4 => ?_
          have b34 := b3.trans b4
          refine pick (xs := ys) rfl rfl (fE b34) T4 hye (by omega) fun H5 y b5 T5 hy5 => ?_
          exact made_leaf q (at_ns (w := "in") (ns := [x, y]) (by decide +kernel) (Nat.le_refl 2)) (kok_ns (by decide +kernel) (two_ok (pn_ok x (hx x hx4)) (pn_ok y (hy y hy5)))) (b34.trans b5) T5 rfl
      · rw [decide_eq_false h4]
        refine iteF' ?_
        refine ⟨_, rfl, Nat.zero_le _, fun l1 hl1 => eq_nil (same_new hl1 _ _ (fS b2)) upd_same hx ⟨_, rfl, ?_⟩⟩
        rw [decide_eq_false hne]
        exact iteF' ⟨rfl, b2.trans (But.of (same_new hl1)), T2.same (same_new hl1)⟩
  · rintro σ' H2 ⟨rfl, b2, T2⟩
    refine ⟨_, rfl, Nat.zero_le _, fun l1 hl1 => eq_nil (same_new hl1 _ _ (fS b2)) upd_same hx ⟨_, rfl, ?_⟩⟩
    have b3 := b2.trans (But.of (same_new (o := .lst []) hl1))
    have T3 := T2.same (same_new (o := .lst []) hl1)
    generalize upd H2 l1 (.lst []) = H3 at *
    rw [decide_eq_false hne]
    refine iteF' ?_
    refine pick (xs := xs) rfl rfl (fS b3) T3 hne (by omega) fun H4 x b4 T4 hx4 => ?_
    have b34 := b3.trans b4
    refine pick (xs := xs) rfl rfl (fS b34) T4 hne (by omega) fun H5 y b5 T5 hy5 => ?_
    have b05 := b34.trans b5
    obtain ⟨lab, ek, el, hls⟩ := hK.but T b05
    refine ⟨_, rfl, _, _, rfl, rfl, _, rfl, ?_⟩
    by_cases h7 : ch < 7
    · rw [decide_eq_true h7]
      refine iteT' ?_
      have l3 : 0 < ls.length := by rcases ls_cases hls with rfl | rfl | rfl <;> decide
      have l4 : ls.length ≤ 3 := by rcases ls_cases hls with rfl | rfl | rfl <;> decide
      refine ⟨_, rfl, k, _, 1, _, rfl, rfl, SqT.of ek, rfl, _, rfl, _, rfl, k, _, 1, _, rfl, rfl, SqT.of ek, rfl, lab, _, rfl, .inr (SqT.of el), tp, _, rfl, T5, by rw [List.length_map]; omega, by rw [List.length_map]; omega, fun H6 z b6 T6 z0 z1 => ?_⟩
      obtain ⟨a, ha, e6⟩ := pickI z0 z1
      refine ⟨lab, _, z, _, rfl, rfl, SqT.of (b6 _ _ (T5.ne el) el), e6, _, rfl, ?_⟩
      exact made_leaf (h := [.inr "label", .inr a, .inr x]) q (.inl ⟨a, x, rfl⟩) (kok_ns (ns := [a, x]) (by decide +kernel) (two_ok (lt_ok a (ls_letters hls a ha)) (pn_ok x (hx x hx4)))) (b05.trans b6) T6 rfl
    · rw [decide_eq_false h7]
      refine iteF' ?_
      refine ⟨_, rfl, rfl, _, rfl, ?_⟩
      by_cases e7 : ch = 7
      · rw [decide_eq_true (congrArg V.int e7)]
        refine iteT' ?_
        refine ⟨_, rfl, ?_⟩
        exact made_leaf q (at_ns (w := "top") (ns := [x]) (by decide +kernel) (Nat.le_succ 1)) (kok_ns (by decide +kernel) fun z hz => by rw [List.mem_singleton.mp hz]; exact pn_ok x (hx x hx4)) b05 T5 rfl
      · rw [decide_eq_false fun z => e7 (by injection z)]
        refine iteF' ⟨_, rfl, rfl, _, rfl, ?_⟩
        by_cases e8 : ch = 8
        · rw [decide_eq_true (congrArg V.int e8)]
          refine iteT' ?_
          refine ⟨_, rfl, _, rfl, ?_⟩
          exact made_leaf q (at_ns (w := "same") (ns := [x, y]) (by decide +kernel) (Nat.le_refl 2)) (kok_ns (by decide +kernel) (two_ok (pn_ok x (hx x hx4)) (pn_ok y (hx y hy5)))) b05 T5 rfl
        · rw [decide_eq_false fun z => e8 (by injection z)]
          refine iteF' ⟨_, rfl, _, _, rfl, rfl, _, rfl, ?_⟩
          by_cases h11 : ch < 11
          · rw [decide_eq_true h11]
            refine iteT' ?_
            refine ⟨_, rfl, _, rfl, k, _, 0, _, rfl, rfl, SqT.of ek, rfl, tp, _, rfl, T5, ?_, ?_, fun H6 z b6 T6 z0 z1 => ?_⟩
            · cases two <;> decide
            · cases two <;> decide
            obtain ⟨n, rfl⟩ := Int.eq_ofNat_of_zero_le z0
            refine ⟨_, rfl, _, rfl, ?_⟩
            exact made_leaf (h := [.inr "child", .inl (n : Int), .inr x, .inr y]) q (.inr (.inl ⟨n, x, y, rfl⟩)) (fun z hz => by
              rcases List.mem_cons.mp hz with e | hz
              · cases e
                decide +kernel
              rcases List.mem_cons.mp hz with e | hz
              · cases e
              rcases List.mem_cons.mp hz with e | hz
              · cases e
                exact pn_ok x (hx x hx4)
              · cases List.mem_singleton.mp hz
                exact pn_ok y (hx y hy5)) (b05.trans b6) T6 rfl
          · rw [decide_eq_false h11]
            refine iteF' ?_
            refine ⟨_, rfl, _, rfl, ?_⟩
            exact made_leaf q (at_ns (w := "below") (ns := [x, y]) (by decide +kernel) (Nat.le_refl 2)) (kok_ns (by decide +kernel) (two_ok (pn_ok x (hx x hx4)) (pn_ok y (hx y hy5)))) b05 T5 rfl
end
end K03

set_option Elab.async false
set_option linter.all false
set_option maxRecDepth 100000
set_option maxHeartbeats 4000000
namespace K03
open PySem PySem.Spec PyProof.Rows L2 XS XCS XL LamX XM
/-! ### _law_matrix -/
abbrev sMat : Stmt := top 40
def NMat : List Str := ["tape", "kind", "singles", "sets", "deep", "choice", "word", "left", "name"]
theorem scMat : FnScope NMat ["tape", "kind", "singles", "sets", "deep"] (defScope sMat) := ⟨rfl, rfl, rfl, by decide +kernel, rfl, by decide +kernel, by decide +kernel⟩
def spMat (n : Nat) : Sp := fun vs H Q _ => ∃ (tp k s e : Addr) (d : Nat) (two : Bool) (ls xs ys : List Str), vs = [.ref tp, .ref k, .ref s, .ref e, .int (d : Nat)] ∧ d < n ∧ TapeOk H tp ∧ KindAt H k two ls ∧ H s = some (.lst (xs.map V.str)) ∧ H e = some (.lst (ys.map V.str)) ∧ (∀ x ∈ xs, x ∈ PN) ∧ (∀ y ∈ ys, y ∈ PN) ∧ xs ≠ [] ∧ xs.length + d ≤ 100 ∧ ys.length ≤ 100 ∧ Made tp H (2 ^ (d + 1) - 1) (2 ^ (d + 1)) Q
theorem no_mat {P : Program} {w : World} {K : PySem.W.Frag} {mg : Str → Option Value} {base : Heap} {f : Addr} {fd : FuncData} {m : Nat} : FnOk P w K mg base CX0 m f fd ["tape", "kind", "singles", "sets", "deep"] (spMat 0) := by
  have no : ∀ vs H Q E, ¬ spMat 0 vs H Q E := fun vs H Q E h => by
    obtain ⟨tp, k, s, e, d, two, ls, xs, ys, _, h, _⟩ := h
    exact absurd h (Nat.not_lt_zero _)
  exact ⟨fun vs H Q E h => absurd h (no vs H Q E), fun A outer s H args us vs Q E _ _ _ _ h => absurd h (no vs H Q E)⟩
theorem Made.mono {tp : Addr} {H : Hp} {N B N' B' : Nat} {Q : VK} (q : Made tp H N B Q) (h1 : N' ≤ N) (h2 : B' ≤ B) : Made tp H N' B' Q := fun H' a t b T r o so n1 n2 => q H' a t b T r o so (Nat.le_trans n1 h1) (Nat.le_trans n2 h2)
theorem wok_ok : ∀ w ∈ WALL, PyData.strOk w = true := by decide +kernel
theorem v5 {a b c d : V} {x y : Int} (h : x = y) : [a, b, c, d, V.int x] ++ [] = [a, b, c, d, V.int y] := by rw [h]; rfl
section
variable {P : Program} {w : World} {K : PySem.W.Frag} {mg : Str → Option Value} {base : Heap}
theorem ok_mat {f g a : Addr} {fd gd ad : FuncData} {m n : Nat} (F : Fun K "_law_matrix" "_law_matrix" sMat f fd) (G : FnOk P w K mg base CX0 m g gd ["tape", "many"] spTake) (bG : Binds K gd ["tape", "many"] []) (kG : PySem.W.keepIn K (.ref g) = true) (mG : mg "_law_take" = some (.ref g))
    (GA : FnOk P w K mg base CX0 m a ad ["tape", "kind", "singles", "sets"] spAtom) (bA : Binds K ad ["tape", "kind", "singles", "sets"] []) (kA : PySem.W.keepIn K (.ref a) = true) (mA : mg "_law_atom" = some (.ref a))
    (S : FnOk P w K mg base CX0 (m + n) f fd ["tape", "kind", "singles", "sets", "deep"] (spMat n)) (bS : Binds K fd ["tape", "kind", "singles", "sets", "deep"] []) (mS : mg "_law_matrix" = some (.ref f)) :
    FnOk P w K mg base CX0 (m + n + 1) f fd ["tape", "kind", "singles", "sets", "deep"] (spMat (n + 1)) := by
  refine F.ok scMat (fun vs H Q E h => ?_) (fun cdv A outer s H vs Q E hr h => ?_)
  · obtain ⟨tp, k, s, e, d, two, ls, xs, ys, rfl, _⟩ := h
    rfl
  obtain ⟨tp, k, s, e, d, two, ls, xs, ys, rfl, hd, T, hK, hs, he, hx, hy, hne, hz1, hz2, q⟩ := h
  have hrm : Room m _ := hr.mono (Nat.le_add_right m n)
  refine ⟨_, C8.pss_cut (ps_set (i := 5) scMat.nd rfl (Or.inl rfl) (pe_ifExp (pt_cmpR op_gt (pv 4) pe_int (nomark _)) (pe_call G hrm (by rfl) mG kG bG .nil pass0 (pa_cons (pv 0) (pa_cons pe_int pa_nil))) pe_int))
    (pss_cons (ps_if (pt_cmpR op_lt (pv 5) pe_int (nomark _)) (pss_one (ps_ret (pe_call GA hrm (by rfl) mA kA bA .nil pass0 (pa_cons (pv 0) (pa_cons (pv 1) (pa_cons (pv 2) (pa_cons (pv 3) pa_nil))))))) pss_nil)
    (pss_cons (ps_if (pt_cmpR op_eq (pv 5) pe_int (nomark _)) (pss_one (ps_ret (pe_tup (pa_cons pe_str (pa_cons (pe_call S hr (by rfl) mS F.kp bS .nil pass0 (pa_cons (pv 0) (pa_cons (pv 1) (pa_cons (pv 2) (pa_cons (pv 3) (pa_cons (pe_op op_sub (pv 4) pe_int) pa_nil)))))) pa_nil))))) pss_nil)
    (pss_cons (ps_if (pt_cmpR op_lt (pv 5) pe_int (nomark _))
      (pss_cons (ps_set (i := 6) scMat.nd rfl (Or.inl rfl) (pe_ix ix_list (pe_lst (pa_cons pe_str (pa_cons pe_str pa_nil))) (pe_call G hrm (by rfl) mG kG bG .nil pass0 (pa_cons (pv 0) (pa_cons pe_int pa_nil))) (fun _ _ => rfl)))
      (pss_cons (ps_set (i := 7) scMat.nd rfl (Or.inl rfl) (pe_call S hr (by rfl) mS F.kp bS .nil pass0 (pa_cons (pv 0) (pa_cons (pv 1) (pa_cons (pv 2) (pa_cons (pv 3) (pa_cons (pe_op op_sub (pv 4) pe_int) pa_nil)))))))
      (pss_one (ps_ret (pe_tup (pa_cons (pv 6) (pa_cons (pv 7) (pa_cons (pe_call S hr (by rfl) mS F.kp bS .nil pass0 (pa_cons (pv 0) (pa_cons (pv 1) (pa_cons (pv 2) (pa_cons (pv 3) (pa_cons (pe_op op_sub (pv 4) pe_int) pa_nil)))))) pa_nil)))))))) pss_nil)
    (pss_cons (ps_set (i := 6) scMat.nd rfl (Or.inl rfl) (pe_ix ix_list (pe_lst (pa_cons pe_str (pa_cons pe_str pa_nil))) (pe_call G hrm (by rfl) mG kG bG .nil pass0 (pa_cons (pv 0) (pa_cons pe_int pa_nil))) (fun _ _ => rfl)))
    (pss_cons (ps_set (i := 8) scMat.nd rfl (Or.inl rfl) (pe_ix ix_list (pe_lst (pa_cons pe_str (pa_cons pe_str (pa_cons pe_str pa_nil)))) (pe_call G hrm (by rfl) mG kG bG .nil pass0 (pa_cons (pv 0) (pa_cons pe_int pa_nil))) (fun _ _ => rfl)))
    (pss_one (ps_ret (pe_tup (pa_cons (pv 6) (pa_cons (pv 8) (pa_cons (pe_call S hr (by rfl) mS F.kp bS .nil pass0 (pa_cons (pv 0) (pa_cons (pv 1) (pa_cons (pe_op op_cat (pv 2) (pe_lst (pa_cons (pv 8) pa_nil))) (pa_cons (pv 3) (pa_cons (pe_op op_sub (pv 4) pe_int) pa_nil)))))) pa_nil))))))))))), ?_⟩
  have fS : ∀ {H'}, But tp H H' → H' s = some (.lst (xs.map V.str)) := fun b => b _ _ (T.neL hs) hs
  have fE : ∀ {H'}, But tp H H' → H' e = some (.lst (ys.map V.str)) := fun b => b _ _ (T.neL he) he
  refine ⟨fun σ' H' => ∃ ch : Int, σ' = [some (.ref tp), some (.ref k), some (.ref s), some (.ref e), some (.int (d : Nat)), some (.int ch), none, none, none] ∧ But tp H H' ∧ TapeOk H' tp ∧ 0 ≤ ch ∧ ch < 8 ∧ (3 ≤ ch → 0 < d), ?_, ?_⟩
  · refine ⟨_, rfl, _, _, rfl, rfl, _, rfl, ?_⟩
    by_cases h0 : (d : Int) > 0
    · rw [decide_eq_true h0]
      refine iteT' ?_
      exact ⟨_, rfl, tp, 8, rfl, T, by decide, by decide, fun H1 z b1 T1 z0 z1 => ⟨z, rfl, b1, T1, z0, z1, fun _ => by omega⟩⟩
    · rw [decide_eq_false h0]
      refine iteF' ?_
      exact ⟨0, rfl, But.refl _ _, T, by decide, by decide, fun z => absurd z (by decide)⟩
  · rintro σ' H1 ⟨ch, rfl, b1, T1, c0, c8, cd⟩
    have hK1 := hK.but T b1
    refine ⟨_, rfl, _, _, rfl, rfl, _, rfl, ?_⟩
    by_cases h3 : ch < 3
    · rw [decide_eq_true h3]
      refine iteT' ?_
      have p2 : 2 ≤ 2 ^ (d + 1) := by
        have := Nat.pow_le_pow_right (n := 2) (by decide) (show 1 ≤ d + 1 by omega)
        simpa using this
      exact ⟨_, rfl, _, rfl, _, rfl, _, rfl, tp, k, s, e, two, ls, xs, ys, rfl, T1, hK1, fS b1, fE b1, hx, hy, hne, by omega, hz2, fun H2 a t b2 T2 r o so n1 n2 => q H2 a t (b1.trans b2) T2 r o so (by omega) (by omega)⟩
    rw [decide_eq_false h3]
    refine iteF' ?_
    obtain ⟨d', rfl⟩ : ∃ d', d = d' + 1 := ⟨d - 1, by have := cd (by omega); omega⟩
    have pw : 2 ^ (d' + 1 + 1) = 2 ^ (d' + 1) + 2 ^ (d' + 1) := by rw [Nat.pow_succ, Nat.mul_two]
    have p1 : 1 ≤ 2 ^ (d' + 1) := Nat.one_le_two_pow
    have hdd : (((d' + 1 : Nat) : Int) - 1) = ((d' : Nat) : Int) := by omega
    refine ⟨_, rfl, rfl, _, rfl, ?_⟩
    by_cases e3 : ch = 3
    · rw [decide_eq_true (congrArg V.int e3)]
      refine iteT' ?_
      refine ⟨_, rfl, _, rfl, _, rfl, _, rfl, _, rfl, _, _, rfl, rfl, tp, k, s, e, d', two, ls, xs, ys, v5 hdd, by omega, T1, hK1, fS b1, fE b1, hx, hy, hne, by omega, hz2, fun H2 a t b2 T2 r o so n1 n2 => ?_⟩
      refine ⟨(by show 2 ≤ sizeLine; exact small (by decide)), fun p hp => ?_⟩
      refine q _ p (.un [.inr "not"] t) ((b1.trans b2).trans (But.of (same_new hp))) (T2.same (same_new hp)) (.un upd_same (r.same (same_new hp))) ⟨.inl rfl, o⟩ ⟨kok_ns (ns := []) (by decide +kernel) (fun x hx => by simp at hx), so⟩ ?_ ?_
      · rw [num_eq]
        simp only [kids, List.map_cons, List.map_nil, List.sum_cons, List.sum_nil]
        omega
      · show nn t ≤ _
        omega
    rw [decide_eq_false fun z => e3 (by injection z)]
    refine iteF' ⟨_, rfl, _, _, rfl, rfl, _, rfl, ?_⟩
    by_cases h7 : ch < 7
    · rw [decide_eq_true h7]
      refine iteT' ?_
      refine ⟨(by show 2 ≤ sizeLine; exact small (by decide)), fun l0 hl0 => ?_⟩
      have g2 := same_new (o := .lst [.str "and", .str "or"]) hl0
      have b2 := b1.trans (But.of g2)
      have T2 := T1.same g2
      have e2 : (upd H1 l0 (.lst [.str "and", .str "or"])) l0 = some (.lst ((["and", "or"] : List Str).map V.str)) := upd_same
      generalize upd H1 l0 (.lst [.str "and", .str "or"]) = H2 at *
      refine ⟨_, rfl, tp, 2, rfl, T2, by decide, by decide, fun H3 z b3 T3 z0 z1 => ?_⟩
      obtain ⟨wd, hw, ew⟩ := pickI (xs := (["and", "or"] : List Str)) z0 z1
      refine ⟨l0, _, z, _, rfl, rfl, SqL.of (b3 _ _ (T2.neL e2) e2), ew, ?_⟩
      have b03 := b2.trans b3
      refine ⟨_, rfl, _, rfl, _, rfl, _, rfl, _, rfl, _, _, rfl, rfl, tp, k, s, e, d', two, ls, xs, ys, v5 hdd, by omega, T3, hK.but T b03, fS b03, fE b03, hx, hy, hne, by omega, hz2, fun H4 a4 t4 b4 T4 r4 o4 so4 n1 n2 => ?_⟩
      have b04 := b03.trans b4
      refine ⟨_, rfl, _, rfl, _, rfl, _, rfl, _, rfl, _, rfl, _, rfl, _, _, rfl, rfl, tp, k, s, e, d', two, ls, xs, ys, v5 hdd, by omega, T4, hK.but T b04, fS b04, fE b04, hx, hy, hne, by omega, hz2, fun H5 a5 t5 b5 T5 r5 o5 so5 n3 n4 => ?_⟩
      refine ⟨(by show 3 ≤ sizeLine; exact small (by decide)), fun p hp => ?_⟩
      have r45 := r4.keepT (T4.keepT b5)
      refine q _ p (.bin [.inr wd] t4 t5) ((b04.trans b5).trans (But.of (same_new hp))) (T5.same (same_new hp)) (.bin upd_same (r45.same (same_new hp)) (r5.same (same_new hp))) ⟨⟨wd, rfl, hw⟩, o4, o5⟩ ⟨kok_ns (ns := []) (wok_ok wd (by revert hw; exact fun h => (by decide +kernel : ∀ w ∈ (["and", "or"] : List Str), w ∈ WALL) wd h)) (fun x hx => by simp at hx), so4, so5⟩ ?_ ?_
      · rw [num_eq]
        simp only [kids, List.map_cons, List.map_nil, List.sum_cons, List.sum_nil]
        omega
      · show nn t4 + nn t5 ≤ _
        omega
    rw [decide_eq_false h7]
    refine iteF' ?_
    refine ⟨(by show 2 ≤ sizeLine; exact small (by decide)), fun l0 hl0 => ?_⟩
    have g2 := same_new (o := .lst [.str "some", .str "all"]) hl0
    have b2 := b1.trans (But.of g2)
    have T2 := T1.same g2
    have e2 : (upd H1 l0 (.lst [.str "some", .str "all"])) l0 = some (.lst ((["some", "all"] : List Str).map V.str)) := upd_same
    generalize upd H1 l0 (.lst [.str "some", .str "all"]) = H2 at *
    refine ⟨_, rfl, tp, 2, rfl, T2, by decide, by decide, fun H3 z b3 T3 z0 z1 => ?_⟩
    obtain ⟨wd, hw, ew⟩ := pickI (xs := (["some", "all"] : List Str)) z0 z1
    refine ⟨l0, _, z, _, rfl, rfl, SqL.of (b3 _ _ (T2.neL e2) e2), ew, ?_⟩
    have b03 := b2.trans b3
    refine ⟨(by show 3 ≤ sizeLine; exact small (by decide)), fun l4 hl4 => ?_⟩
    have g4 := same_new (o := .lst [.str "x", .str "y", .str "z"]) hl4
    have b4 := b03.trans (But.of g4)
    have T4 := T3.same g4
    have e4 : (upd H3 l4 (.lst [.str "x", .str "y", .str "z"])) l4 = some (.lst ((["x", "y", "z"] : List Str).map V.str)) := upd_same
    generalize upd H3 l4 (.lst [.str "x", .str "y", .str "z"]) = H4 at *
    refine ⟨_, rfl, tp, 3, rfl, T4, by decide, by decide, fun H5 z' b5 T5 z0' z1' => ?_⟩
    obtain ⟨nm, hnm, en⟩ := pickI (xs := (["x", "y", "z"] : List Str)) z0' z1'
    refine ⟨l4, _, z', _, rfl, rfl, SqL.of (b5 _ _ (T4.neL e4) e4), en, ?_⟩
    have b05 := b4.trans b5
    refine ⟨_, rfl, _, rfl, _, rfl, _, rfl, _, rfl, _, rfl, (by show 1 ≤ sizeLine; exact small (by decide)), fun l6 hl6 => ?_⟩
    have g6 := same_new (o := .lst [.str nm]) hl6
    refine ⟨s, l6, _, _, rfl, rfl, g6 _ _ (fS b05), upd_same, ?_, fun l7 hl7 => ?_⟩
    · rw [List.length_map]
      exact small (by show xs.length + 1 ≤ 1000; omega)
    have g7 := same_new (o := .lst (xs.map V.str ++ [.str nm])) hl7
    have b07 := b05.trans (But.of (g6.trans g7))
    have T7 := T5.same (g6.trans g7)
    have pnm : ∀ x ∈ (["x", "y", "z"] : List Str), x ∈ PN := by decide +kernel
    refine ⟨_, rfl, _, rfl, _, _, rfl, rfl, tp, k, l7, e, d', two, ls, xs ++ [nm], ys, v5 hdd, by omega, T7, hK.but T b07, ?_, fE b07, ?_, hy, by simp, ?_, hz2, fun H8 a8 t8 b8 T8 r8 o8 so8 n1 n2 => ?_⟩
    · rw [upd_same, List.map_append]
      rfl
    · intro x hx'
      rcases List.mem_append.mp hx' with h | h
      · exact hx x h
      · rw [List.mem_singleton.mp h]
        exact pnm nm hnm
    · rw [List.length_append, List.length_singleton]
      omega
    refine ⟨(by show 3 ≤ sizeLine; exact small (by decide)), fun p hp => ?_⟩
    have hwq : ∀ w ∈ (["some", "all"] : List Str), w ∈ WQ := by decide +kernel
    refine q _ p (.un [.inr wd, .inr nm] t8) ((b07.trans b8).trans (But.of (same_new hp))) (T8.same (same_new hp)) (.un upd_same (r8.same (same_new hp))) ⟨.inr ⟨wd, nm, rfl, hwq wd hw⟩, o8⟩ ⟨kok_ns (ns := [nm]) (wok_ok wd ((wq_ok wd (hwq wd hw)).2.2)) (fun x hx => by rw [List.mem_singleton.mp hx]; exact pn_ok nm (pnm nm hnm)), so8⟩ ?_ ?_
    · rw [num_eq]
      simp only [kids, List.map_cons, List.map_nil, List.sum_cons, List.sum_nil]
      omega
    · show nn t8 ≤ _
      omega
end
end K03

set_option Elab.async false
set_option linter.all false
set_option maxRecDepth 100000
set_option maxHeartbeats 4000000
namespace K03
open PySem PySem.Spec PyProof.Rows L2 XS XCS XL LamX XM
/-! ### _law_inner, _law_depth -/
abbrev sLInner : Stmt := top 43
abbrev sLDepth : Stmt := top 45
theorem scLInner : FnScope ["formula", "word"] ["formula"] (defScope sLInner) := ⟨rfl, rfl, rfl, by decide +kernel, rfl, by decide +kernel, by decide +kernel⟩
theorem scLDepth : FnScope ["formula", "part"] ["formula"] (defScope sLDepth) := ⟨rfl, rfl, rfl, by decide +kernel, rfl, by decide +kernel, by decide +kernel⟩
def spLInner : Sp := fun vs H Q _ => ∃ (a : Addr) (t : Fm), vs = [.ref a] ∧ Rep H a t ∧ Ok t ∧ ∀ H' p cs, Same H H' → H' p = some (.lst (cs.map V.ref)) → Al (Rep H') cs (kids t) → Q (.ref p) H'
def spLDepth (n : Nat) : Sp := fun vs H Q _ => ∃ (a : Addr) (t : Fm), vs = [.ref a] ∧ Rep H a t ∧ Ok t ∧ dep t < n ∧ ∀ H', Same H H' → Q (.int (dep t : Nat)) H'
theorem no_ldepth {P : Program} {w : World} {K : PySem.W.Frag} {mg : Str → Option Value} {base : Heap} {f : Addr} {fd : FuncData} {m : Nat} : FnOk P w K mg base CX0 m f fd ["formula"] (spLDepth 0) := by
  have no : ∀ vs H Q E, ¬ spLDepth 0 vs H Q E := fun vs H Q E h => by
    obtain ⟨a, t, _, _, _, h, _⟩ := h
    exact absurd h (Nat.not_lt_zero _)
  exact ⟨fun vs H Q E h => absurd h (no vs H Q E), fun A outer s H args us vs Q E _ _ _ _ h => absurd h (no vs H Q E)⟩
theorem dep_kid {t s : Fm} (h : s ∈ kids t) : dep s < dep t := by
  cases t with
  | leaf _ => simp [kids] at h
  | un _ f =>
    simp only [kids, List.mem_singleton] at h
    subst h
    rw [dep]
    omega
  | bin _ f g =>
    simp only [kids, List.mem_cons, List.not_mem_nil, or_false] at h
    rcases h with rfl | rfl <;> · simp only [dep]; omega
/-- which word, and what stands at which place -/
theorem places {t : Fm} {H : Hp} {a : Addr} (ho : Ok t) (hR : Rep H a t) : ∃ (xs : List V) (w : Str), H a = some (.tup xs) ∧ xs[0]? = some (.str w) ∧
  ((w = "not" ∧ ∃ h f c, t = .un h f ∧ xs[1]? = some (.ref c) ∧ Rep H c f) ∨ (w ∈ WB ∧ ∃ h f g c d, t = .bin h f g ∧ xs[1]? = some (.ref c) ∧ xs[2]? = some (.ref d) ∧ Rep H c f ∧ Rep H d g) ∨
    (w ∈ WQ ∧ ∃ x f c, t = .un [.inr w, .inr x] f ∧ xs[1]? = some (.str x) ∧ xs[2]? = some (.ref c) ∧ Rep H c f) ∨ (w ∈ WA ∧ ∃ h, t = .leaf h ∧ AtOk h ∧ xs = h.map kV ∧ ∃ r, h = .inr w :: r)) := by
  cases hR with
  | leaf e =>
    rename_i h
    obtain ⟨w, r, eh, _, _, hm, _⟩ := head_of ho
    have eh' : h = .inr w :: r := eh
    have ho' : AtOk h := ho
    refine ⟨_, w, e, by rw [eh']; rfl, .inr (.inr (.inr ⟨?_, h, rfl, ho', rfl, r, eh'⟩))⟩
    rcases ho' with ⟨a, x, e⟩ | ⟨k, x, y, e⟩ | ⟨w', ns, e, hw, hn⟩
    · rw [e] at eh'
      cases eh'
      decide +kernel
    · rw [e] at eh'
      cases eh'
      decide +kernel
    · rw [e] at eh'
      cases eh'
      exact wl_in _ hw
  | un e r =>
    rename_i c h f
    rcases ho.1 with z | ⟨q, x, z, hq⟩
    · subst z
      exact ⟨_, "not", e, rfl, .inl ⟨rfl, _, _, c, rfl, rfl, r⟩⟩
    · subst z
      exact ⟨_, q, e, rfl, .inr (.inr (.inl ⟨hq, x, f, c, rfl, rfl, rfl, r⟩))⟩
  | bin e r1 r2 =>
    rename_i c d h f g
    obtain ⟨w, z, hw⟩ := ho.1
    subst z
    exact ⟨_, w, e, rfl, .inr (.inl ⟨hw, _, f, g, c, d, rfl, rfl, rfl, r1, r2⟩)⟩
theorem w_not : ∀ w ∈ WA, w ≠ "not" ∧ w ∉ WB ∧ w ∉ WQ := by decide +kernel
theorem w_notB : ∀ w ∈ WB, w ≠ "not" ∧ w ∉ WQ := by decide +kernel
theorem w_notQ : ∀ w ∈ WQ, w ≠ "not" ∧ w ∉ WB := by decide +kernel
theorem str_ne {x y : Str} (h : x ≠ y) : decide (V.str x = V.str y) = false := decide_eq_false fun z => h (by injection z)
section
variable {P : Program} {w : World} {K : PySem.W.Frag} {mg : Str → Option Value} {base : Heap}
theorem ok_linner {f : Addr} {fd : FuncData} {k : Nat} (F : Fun K "_law_inner" "_law_inner" sLInner f fd) : FnOk P w K mg base CX0 (k + 1) f fd ["formula"] spLInner := by
  refine F.ok scLInner (fun vs H Q E h => ?_) (fun cdv A outer s H vs Q E hr h => ?_)
  · obtain ⟨a, t, rfl, _⟩ := h
    rfl
  obtain ⟨a, t, rfl, hR, ho, q⟩ := h
  refine ⟨_, pss_cons (ps_set (i := 1) scLInner.nd rfl (Or.inl rfl) (pe_ix ix_tup (pv 0) pe_int (fun _ _ => rfl)))
    (pss_cons (ps_if (pt_cmpR op_eq (pv 1) pe_str (nomark _)) (pss_one (ps_ret (pe_lst (pa_cons (pe_ix ix_tup (pv 0) pe_int (fun _ _ => rfl)) pa_nil)))) pss_nil)
    (pss_cons (ps_if (pt_cmpR op_in_seq (pv 1) (pe_lst (pa_cons pe_str (pa_cons pe_str pa_nil))) (by rfl)) (pss_one (ps_ret (pe_lst (pa_cons (pe_ix ix_tup (pv 0) pe_int (fun _ _ => rfl)) (pa_cons (pe_ix ix_tup (pv 0) pe_int (fun _ _ => rfl)) pa_nil))))) pss_nil)
    (pss_one (ps_ret (pe_ifExp (pt_cmpR op_in_seq (pv 1) (pe_lst (pa_cons pe_str (pa_cons pe_str (pa_cons pe_str (pa_cons pe_str pa_nil))))) (by rfl)) (pe_lst (pa_cons (pe_ix ix_tup (pv 0) pe_int (fun _ _ => rfl)) pa_nil)) (pe_lst pa_nil)))))), ?_⟩
  obtain ⟨xs, wd, ex, h0, cs⟩ := places ho hR
  refine ⟨_, rfl, a, _, 0, _, rfl, rfl, SqT.of ex, atI_nat (j := 0) h0, ?_⟩
  refine ⟨_, rfl, rfl, _, rfl, ?_⟩
  by_cases hn : wd = "not"
  · rw [decide_eq_true (congrArg V.str hn)]
    refine iteT' ?_
    rcases cs with ⟨_, h, f, c, rfl, h1, rc⟩ | ⟨hw, _⟩ | ⟨hw, _⟩ | ⟨hw, _⟩
    · refine ⟨_, rfl, a, _, 1, _, rfl, rfl, SqT.of ex, atI_nat (j := 1) h1, (by show 1 ≤ sizeLine; exact small (by decide)), fun p hp => ?_⟩
      exact q _ p [c] (same_new hp) upd_same ⟨rc.same (same_new hp), True.intro⟩
    · exact absurd hn (w_notB wd hw).1
    · exact absurd hn (w_notQ wd hw).1
    · exact absurd hn (w_not wd hw).1
  rw [str_ne hn]
  refine iteF' ⟨_, rfl, (by show 2 ≤ sizeLine; exact small (by decide)), fun l1 hl1 => ?_⟩
  have g1 := same_new (o := .lst [.str "and", .str "or"]) hl1
  refine ⟨l1, (["and", "or"] : List Str).map V.str, rfl, .inl (SqL.of upd_same), rfl, rfl, _, rfl, ?_⟩
  rw [inV_str]
  by_cases hb : wd ∈ WB
  · rw [show decide (wd ∈ (["and", "or"] : List Str)) = true from decide_eq_true hb]
    refine iteT' ?_
    rcases cs with ⟨hw, _⟩ | ⟨_, h, f, g, c, d, rfl, h1, h2, r1, r2⟩ | ⟨hw, _⟩ | ⟨hw, _⟩
    · exact absurd hw hn
    · refine ⟨_, rfl, a, _, 1, _, rfl, rfl, SqT.of (g1 _ _ ex), atI_nat (j := 1) h1, _, rfl, a, _, 2, _, rfl, rfl, SqT.of (g1 _ _ ex), atI_nat (j := 2) h2, (by show 2 ≤ sizeLine; exact small (by decide)), fun p hp => ?_⟩
      exact q _ p [c, d] (g1.trans (same_new hp)) upd_same ⟨r1.same (g1.trans (same_new hp)), r2.same (g1.trans (same_new hp)), True.intro⟩
    · exact absurd hb (w_notQ wd hw).2
    · exact absurd hb (w_not wd hw).2.1
  rw [show decide (wd ∈ (["and", "or"] : List Str)) = false from decide_eq_false hb]
  refine iteF' ⟨_, rfl, (by show 4 ≤ sizeLine; exact small (by decide)), fun l2 hl2 => ?_⟩
  have g2 := g1.trans (same_new (o := .lst [.str "some", .str "all", .str "someset", .str "allset"]) hl2)
  refine ⟨l2, WQ.map V.str, rfl, .inl (SqL.of upd_same), rfl, rfl, _, rfl, ?_⟩
  rw [inV_str]
  by_cases hq : wd ∈ WQ
  · rw [decide_eq_true hq]
    refine iteT' ?_
    rcases cs with ⟨hw, _⟩ | ⟨hw, _⟩ | ⟨_, x, f, c, rfl, h1, h2, rc⟩ | ⟨hw, _⟩
    · exact absurd hw hn
    · exact absurd hw hb
    · refine ⟨_, rfl, a, _, 2, _, rfl, rfl, SqT.of (g2 _ _ ex), atI_nat (j := 2) h2, (by show 1 ≤ sizeLine; exact small (by decide)), fun p hp => ?_⟩
      exact q _ p [c] (g2.trans (same_new hp)) upd_same ⟨rc.same (g2.trans (same_new hp)), True.intro⟩
    · exact absurd hq (w_not wd hw).2.2
  rw [decide_eq_false hq]
  refine iteF' ⟨Nat.zero_le _, fun p hp => ?_⟩
  rcases cs with ⟨hw, _⟩ | ⟨hw, _⟩ | ⟨hw, _⟩ | ⟨hw, h, rfl, _⟩
  · exact absurd hw hn
  · exact absurd hw hb
  · exact absurd hw hq
  · exact q _ p [] (g2.trans (same_new hp)) upd_same True.intro
theorem ok_ldepth {f g : Addr} {fd gd : FuncData} {m n : Nat} (F : Fun K "_law_depth" "_law_depth" sLDepth f fd) (G : FnOk P w K mg base CX0 m g gd ["formula"] spLInner) (bG : Binds K gd ["formula"] []) (kG : PySem.W.keepIn K (.ref g) = true) (mG : mg "_law_inner" = some (.ref g))
    (S : FnOk P w K mg base CX0 (m + n) f fd ["formula"] (spLDepth n)) (bS : Binds K fd ["formula"] []) (mS : mg "_law_depth" = some (.ref f)) (mx : mg "max" = none) : FnOk P w K mg base CX0 (m + n + 1) f fd ["formula"] (spLDepth (n + 1)) := by
  refine F.ok scLDepth (fun vs H Q E h => ?_) (fun cdv A outer s H vs Q E hr h => ?_)
  · obtain ⟨a, t, rfl, _⟩ := h
    rfl
  obtain ⟨a, t, rfl, hR, ho, hd, q⟩ := h
  have hrm : Room m _ := hr.mono (Nat.le_add_right m n)
  refine ⟨_, pss_one (ps_ret (pe_op op_add pe_int (pe_callB (cr_max rfl) (by rfl) mx (by decide +kernel) (pa_cons (pe_op op_cat (pe_lst (pa_cons pe_int pa_nil))
    (pe_lc (own := [("part", 1)]) (g := gName 1) (tt := tYes) (te := tCall (spLDepth n) [] E0 (tCons (tVar 1) tNil)) rfl scLDepth.nd (pi_list (pe_call G hrm (by rfl) mG kG bG .nil pass0 (pa_cons (pv 0) pa_nil)))
      (blkOk_by (own := [("part", 1)]) (N := ["formula", "part"]) (sc := defScope sLDepth) (by decide +kernel)) (fun _ _ _ _ _ => pg_name (i := 1) scLDepth.nd rfl (Or.inl rfl)) (fun _ _ _ _ _ => pts_nil)
      (fun _ _ _ _ _ => pe_call S hr (by rfl) mS F.kp bS .nil pass0 (pa_cons (pv 1) pa_nil)))) pa_nil)))), ?_⟩
  refine ⟨(by show 1 ≤ sizeLine; exact small (by decide)), fun l0 hl0 => ?_⟩
  have g0 := same_new (o := .lst [.int 0]) hl0
  have e0 : (upd H l0 (.lst [.int 0])) l0 = some (.lst (([0] : List Int).map V.int)) := upd_same
  generalize upd H l0 (.lst [.int 0]) = H0 at *
  refine ⟨_, rfl, a, t, rfl, hR.same g0, ho, fun H1 p cs g1 e1 al => ⟨p, rfl, ⟨_, SqL.of e1⟩, fun D hD => ?_⟩⟩
  have kl := kids_le t
  refine lc_list (xs := cs.map V.ref) (fun i H2 => Same H1 H2 ∧ H2 D = some (.lst ((((kids t).take i).map fun s => ((dep s : Nat) : Int)).map V.int))) ⟨same_new hD, upd_same⟩ (fun i H2 hi pv => SqL.of (pv.1 _ _ e1)) (fun i x H2 hx pv => ?_) fun H2 pv => ?_
  · obtain ⟨g2, eD⟩ := pv
    rw [List.getElem?_map] at hx
    obtain ⟨c, hc1, rfl⟩ : ∃ c, cs[i]? = some c ∧ x = .ref c := by
      cases z : cs[i]? with
      | none => rw [z] at hx; cases hx
      | some c => rw [z] at hx; exact ⟨c, rfl, (Option.some.inj hx).symm⟩
    obtain ⟨s', hs', rc⟩ := al.get hc1
    have hm := List.mem_of_getElem? hs'
    refine ⟨rfl, yes_turn ?_⟩
    refine ⟨_, rfl, c, s', rfl, rc.same g2, ok_kids ho s' hm, by have := dep_kid hm; omega, fun H3 g3 => ⟨_, g3 _ _ eD, small' ?_, same_fresh hD (g2.trans g3), ?_⟩⟩
    · rw [List.length_map, List.length_map, List.length_take]
      omega
    · rw [upd_same, List.take_add_one, hs', Option.toList_some, List.map_append, List.map_append]
      rfl
  · obtain ⟨g2, eD⟩ := pv
    rw [List.length_map, al.len, List.take_length] at eD
    refine ⟨l0, D, _, _, rfl, rfl, g2 _ _ (g1 _ _ e0), eD, ?_, fun r hr3 => ?_⟩
    · rw [List.length_map, List.length_map, List.length_map]
      exact small (by show 1 + (kids t).length ≤ 1000; omega)
    refine ⟨r, 0 :: ((kids t).map fun s => ((dep s : Nat) : Int)), rfl, SqL.of upd_same, by simp, fun mx hm hle => ⟨_, _, rfl, rfl, ?_⟩⟩
    have hmx : 1 + mx = ((dep t : Nat) : Int) := by
      have z := hle 0 (by simp)
      refine dep_max (fun hk => ?_) (fun hk => ⟨?_, fun y hy => hle y (List.mem_cons_of_mem _ hy)⟩)
      · rw [hk] at hm
        simpa using hm
      · rcases List.mem_cons.mp hm with e | hm
        · cases hc : kids t with
          | nil => rw [hc] at hk; exact absurd rfl hk
          | cons s r =>
            have z2 := hle ((dep s : Nat) : Int) (by rw [hc]; simp)
            have z3 : 0 < dep s := by cases s <;> simp only [dep] <;> omega
            omega
        · exact hm
    have z := q _ ((g0.trans (g1.trans g2)).trans (same_new (o := .lst (([0] : List Int).map V.int ++ ((kids t).map fun s => ((dep s : Nat) : Int)).map V.int)) hr3))
    rw [← hmx] at z
    exact z
end
end K03

set_option Elab.async false
set_option linter.all false
set_option maxRecDepth 100000
set_option maxHeartbeats 4000000
namespace K03
open PySem PySem.Spec PyProof.Rows L2 XS XCS XL LamX XM
/-! ### formulas as data; _law_free -/
def keyD : Key → PyData
  | .inl i => .int i
  | .inr x => .str x
def dF : Fm → PyData
  | .leaf h => .tuple (h.map keyD)
  | .un h f => .tuple (h.map keyD ++ [dF f])
  | .bin h f g => .tuple (h.map keyD ++ [dF f, dF g])
theorem lay_app : ∀ {xs ys : List PyData}, PyData.canLayAll0 xs = true → PyData.canLayAll0 ys = true → PyData.canLayAll0 (xs ++ ys) = true
  | [], _, _, h => h
  | x :: xs, ys, h, k => by
    simp only [PyData.canLayAll0, Bool.and_eq_true] at h
    simp only [List.cons_append, PyData.canLayAll0, Bool.and_eq_true]
    exact ⟨h.1, lay_app h.2 k⟩
theorem lay_keys : ∀ {h : List Key}, kOk h → PyData.canLayAll0 (h.map keyD) = true
  | [], _ => rfl
  | .inl i :: h, k => by
    simp only [List.map_cons, keyD, PyData.canLayAll0, PyData.canLay0, Bool.true_and]
    exact lay_keys fun x hx => k x (List.mem_cons_of_mem _ hx)
  | .inr x :: h, k => by
    simp only [List.map_cons, keyD, PyData.canLayAll0, PyData.canLay0, Bool.and_eq_true]
    exact ⟨k x List.mem_cons_self, lay_keys fun x hx => k x (List.mem_cons_of_mem _ hx)⟩
theorem dF_lay : ∀ {t : Fm}, SOk t → (dF t).canLay0 = true
  | .leaf h, k => lay_keys k
  | .un h f, k => lay_app (lay_keys k.1) (by simp [PyData.canLayAll0, dF_lay k.2])
  | .bin h f g, k => lay_app (lay_keys k.1) (by simp [PyData.canLayAll0, dF_lay k.2.1, dF_lay k.2.2])
theorem deep_app : ∀ {xs ys : List PyData} {n : Nat}, PyData.depthAll xs ≤ n → PyData.depthAll ys ≤ n → PyData.depthAll (xs ++ ys) ≤ n
  | [], _, _, _, h => h
  | x :: xs, ys, n, h, k => by
    simp only [PyData.depthAll] at h
    simp only [List.cons_append, PyData.depthAll]
    have := deep_app (xs := xs) (ys := ys) (n := n) (by omega) k
    omega
theorem deep_keys : ∀ h : List Key, PyData.depthAll (h.map keyD) ≤ 0
  | [] => by simp [PyData.depthAll]
  | .inl i :: h => by
    have := deep_keys h
    simp only [List.map_cons, keyD, PyData.depthAll, PyData.depth]
    omega
  | .inr x :: h => by
    have := deep_keys h
    simp only [List.map_cons, keyD, PyData.depthAll, PyData.depth]
    omega
theorem dF_deep : ∀ t : Fm, (dF t).depth ≤ dep t
  | .leaf h => by
    have := deep_keys h
    simp only [dF, PyData.depth, dep]
    omega
  | .un h f => by
    have a := deep_keys h
    have b := dF_deep f
    have := deep_app (xs := h.map keyD) (ys := [dF f]) (n := dep f) (by omega) (by simp only [PyData.depthAll]; omega)
    simp only [dF, PyData.depth, dep]
    omega
  | .bin h f g => by
    have a := deep_keys h
    have b := dF_deep f
    have c := dF_deep g
    have := deep_app (xs := h.map keyD) (ys := [dF f, dF g]) (n := max (dep f) (dep g)) (by omega) (by simp only [PyData.depthAll]; omega)
    simp only [dF, PyData.depth, dep]
    omega
theorem dall_app {K : PySem.W.Frag} {H : Hp} : ∀ {xs : List V} {ds : List PyData} {ys : List V} {es : List PyData}, DpAll K H xs ds → DpAll K H ys es → DpAll K H (xs ++ ys) (ds ++ es)
  | _, _, _, _, .nil, k => k
  | _, _, _, _, .cons a h, k => .cons a (dall_app h k)
theorem dall_keys {K : PySem.W.Frag} {H : Hp} : ∀ h : List Key, DpAll K H (h.map kV) (h.map keyD)
  | [] => .nil
  | .inl i :: h => .cons (.int i) (dall_keys h)
  | .inr x :: h => .cons (.str x) (dall_keys h)
theorem Rep.data {K : PySem.W.Frag} {H : Hp} {a : Addr} {t : Fm} (r : Rep H a t) : Dp K H (.ref a) (dF t) := by
  induction r with
  | leaf e => exact .tup (SqT.of e) (dall_keys _)
  | un e _ ih => exact .tup (SqT.of e) (dall_app (dall_keys _) (.cons ih .nil))
  | bin e _ _ i1 i2 => exact .tup (SqT.of e) (dall_app (dall_keys _) (.cons i1 (.cons i2 .nil)))
theorem al_data {K : PySem.W.Frag} {H : Hp} : ∀ {cs : List Addr} {ss : List Fm}, Al (Rep H) cs ss → DpAll K H (cs.map V.ref) (ss.map dF)
  | [], [], _ => .nil
  | _ :: _, _ :: _, ⟨h, t⟩ => .cons h.data (al_data t)
theorem sok_kids {t : Fm} (h : SOk t) : ∀ s ∈ kids t, SOk s := by
  cases t with
  | leaf _ => simp [kids]
  | un _ f => simp [kids]; exact h.2
  | bin _ f g => simp [kids]; exact h.2
theorem eqvF_nil (ss : List Fm) : PyData.eqv (.list (ss.map dF)) (.list []) = decide (ss = []) := by
  cases ss with
  | nil => rfl
  | cons x r => rw [decide_eq_false (by simp)]; rfl
structure LF (L xs : List Str) : Prop where
  n : L.Nodup
  m : ∀ x, x ∈ L ↔ x ∈ xs
theorem LF.len {L xs : List Str} (h : LF L xs) : L.length ≤ xs.length := h.n.length_le_of_subset fun x m => (h.m x).mp m
theorem LF.snoc {L xs : List Str} {x : Str} (h : LF L xs) (hx : x ∉ L) : LF (L ++ [x]) (xs ++ [x]) := ⟨List.nodup_append.mpr ⟨h.n, (List.nodup_cons.mpr ⟨by simp, List.nodup_nil⟩), fun a ha b hb => by rw [List.mem_singleton.mp hb]; exact fun z => hx (z ▸ ha)⟩, fun y => by rw [List.mem_append, List.mem_append, h.m]⟩
theorem LF.skip {L xs : List Str} {x : Str} (h : LF L xs) (hx : x ∈ L) : LF L (xs ++ [x]) := ⟨h.n, fun y => by
  rw [List.mem_append, h.m, List.mem_singleton]
  exact ⟨.inl, fun z => z.elim id fun e => e ▸ (h.m x).mp hx⟩⟩
theorem LF.filter {L xs : List Str} (h : LF L xs) (p : Str → Bool) : LF (L.filter p) (xs.filter p) := ⟨h.n.sublist List.filter_sublist, fun x => by rw [List.mem_filter, List.mem_filter, h.m]⟩
theorem LF.cat {L xs L3 zs : List Str} (h : LF L xs) (k : LF L3 zs) : LF (L ++ L3.filter (fun y => !decide (y ∈ L))) (xs ++ zs) := ⟨List.nodup_append.mpr ⟨h.n, k.n.sublist List.filter_sublist, fun a ha b hb e => by
  subst e
  have := (List.mem_filter.mp hb).2
  rw [decide_eq_true ha] at this
  cases this⟩, fun x => by
  rw [List.mem_append, List.mem_append, List.mem_filter, k.m, ← h.m]
  by_cases hx : x ∈ L
  · simp [hx]
  · simp [hx]⟩
theorem kids_nn (t : Fm) : ((kids t).flatMap Fv).length ≤ nn t := by
  cases t with
  | leaf h => simp [kids]
  | un h f => simpa [kids, nn] using fv_le f
  | bin h f g =>
    have a := fv_le f
    have b := fv_le g
    simp only [kids, List.flatMap_cons, List.flatMap_nil, List.append_nil, List.length_append, nn]
    omega
theorem nn_kid {t s : Fm} (h : s ∈ kids t) : nn s ≤ nn t := by
  refine nn_parts ?_
  rw [parts_eq]
  refine List.mem_cons_of_mem _ (List.mem_flatMap.mpr ⟨s, h, ?_⟩)
  rw [parts_eq]
  exact List.mem_cons_self
def baseN (t : Fm) : List Str := match t with
  | .leaf h => leafN h
  | t => (kids t).flatMap Fv
abbrev sLFree : Stmt := top 44
def NLF : List Str := ["formula", "inside", "found", "part", "names", "name", "k"]
theorem scLFree : FnScope NLF ["formula"] (defScope sLFree) := ⟨rfl, rfl, rfl, by decide +kernel, rfl, by decide +kernel, by decide +kernel⟩
def spLFree (n : Nat) : Sp := fun vs H Q _ => ∃ (a : Addr) (t : Fm), vs = [.ref a] ∧ Rep H a t ∧ Ok t ∧ SOk t ∧ dep t < n ∧ dep t ≤ 56 ∧ nn t ≤ 63 ∧ ∀ H' p L, Same H H' → H' p = some (.lst (L.map V.str)) → LF L (Fv t) → Q (.ref p) H'
theorem no_lfree {P : Program} {w : World} {K : PySem.W.Frag} {mg : Str → Option Value} {base : Heap} {f : Addr} {fd : FuncData} {m : Nat} : FnOk P w K mg base CX0 m f fd ["formula"] (spLFree 0) := by
  have no : ∀ vs H Q E, ¬ spLFree 0 vs H Q E := fun vs H Q E h => by
    obtain ⟨a, t, _, _, _, _, h, _⟩ := h
    exact absurd h (Nat.not_lt_zero _)
  exact ⟨fun vs H Q E h => absurd h (no vs H Q E), fun A outer s H args us vs Q E _ _ _ _ h => absurd h (no vs H Q E)⟩
section
variable {P : Program} {w : World} {K : PySem.W.Frag} {mg : Str → Option Value} {base : Heap}
theorem ok_lfree {f g : Addr} {fd gd : FuncData} {m n : Nat} (F : Fun K "_law_free" "_law_free" sLFree f fd) (G : FnOk P w K mg base CX0 m g gd ["formula"] spLInner) (bG : Binds K gd ["formula"] []) (kG : PySem.W.keepIn K (.ref g) = true) (mG : mg "_law_inner" = some (.ref g))
    (S : FnOk P w K mg base CX0 (m + n) f fd ["formula"] (spLFree n)) (bS : Binds K fd ["formula"] []) (mS : mg "_law_free" = some (.ref f)) (mr : mg "range" = none) (ml : mg "len" = none) : FnOk P w K mg base CX0 (m + n + 1) f fd ["formula"] (spLFree (n + 1)) := by
  refine F.ok scLFree (fun vs H Q E h => ?_) (fun cdv A outer s H vs Q E hr h => ?_)
  · obtain ⟨a, t, rfl, _⟩ := h
    rfl
  obtain ⟨a, t, rfl, hR, ho, hs, hd, hd2, hn, q⟩ := h
  have hrm : Room m _ := hr.mono (Nat.le_add_right m n)
  refine ⟨_, pss_cons (ps_set (i := 1) scLFree.nd rfl (Or.inl rfl) (pe_call G hrm (by rfl) mG kG bG .nil pass0 (pa_cons (pv 0) pa_nil)))
    (pss_cons (ps_set (i := 2) scLFree.nd rfl (Or.inr rfl) (pe_lst pa_nil))
    (C8.pss_cut (ps_for PassesOwn.never rfl (pi_list (pv 1)) (pg_name (i := 3) scLFree.nd rfl (Or.inl rfl))
      (pss_one (ps_set (i := 2) scLFree.nd rfl (Or.inr rfl) (pe_op op_cat (pv 2) (pe_lc (own := [("name", 5)]) (g := gName 5) (tt := tTest (tOp (rIn K true) (tVar 5) (tVar 2))) (te := tVar 5) rfl scLFree.nd (pi_list (pe_call S hr (by rfl) mS F.kp bS .nil pass0 (pa_cons (pv 3) pa_nil)))
        (blkOk_by (own := [("name", 5)]) (N := NLF) (sc := defScope sLFree) (by decide +kernel)) (fun _ _ _ _ _ => pg_name (i := 5) scLFree.nd rfl (Or.inl rfl)) (fun _ _ _ _ _ => pts_one (pt_cmpR op_notIn_seq (pv 5) (pv 2) (by rfl))) (fun _ _ _ _ _ => pv 5))))))
    (C8.pss_cut (ps_if (pt_cmpR (op_eqD hr.units) (pv 1) (pe_lst pa_nil) (nomark _))
      (pss_cons (ps_set (i := 4) scLFree.nd rfl (Or.inr rfl) (pe_ifExp (pt_cmpR op_in_seq (pe_ix ix_tup (pv 0) pe_int (fun _ _ => rfl)) (pe_lst (pa_cons pe_str (pa_cons pe_str pa_nil))) (by rfl)) (pe_slice sl_tupA (pv 0) (po_some pe_int) po_none) (pe_slice sl_tupA (pv 0) (po_some pe_int) po_none)))
      (pss_one (ps_set (i := 2) scLFree.nd rfl (Or.inr rfl) (pe_lc (own := [("k", 6)]) (g := gName 6) (tt := tTest (tOp (rIn K true) (tOp (rIxT K) (tVar 4) (tVar 6)) (tSl (rSlA K) (tVar 4) tNoPart (tPart (tVar 6))))) (te := tOp (rIxT K) (tVar 4) (tVar 6)) rfl scLFree.nd
        (pi_range1 (by rfl) mr (pa_cons (pe_callB call_len_seq (by rfl) ml PySem.boot_len (pa_cons (pv 4) pa_nil)) pa_nil))
        (blkOk_by (own := [("k", 6)]) (N := NLF) (sc := defScope sLFree) (by decide +kernel)) (fun _ _ _ _ _ => pg_name (i := 6) scLFree.nd rfl (Or.inl rfl))
        (fun _ _ _ _ _ => pts_one (pt_cmpR op_notIn_seq (pe_ix ix_tup (pv 4) (pv 6) (fun _ _ => rfl)) (pe_slice sl_tupA (pv 4) po_none (po_some (pv 6))) (by rfl))) (fun _ _ _ _ _ => pe_ix ix_tup (pv 4) (pv 6) (fun _ _ => rfl)))))) pss_nil)
    (C8.pss_cut (ps_if (pt_cmpR op_in_seq (pe_ix ix_tup (pv 0) pe_int (fun _ _ => rfl)) (pe_lst (pa_cons pe_str (pa_cons pe_str (pa_cons pe_str (pa_cons pe_str pa_nil))))) (by rfl))
      (pss_one (ps_set (i := 2) scLFree.nd rfl (Or.inr rfl) (pe_lc (own := [("name", 5)]) (g := gName 5) (tt := tTest (tOp rNe (tVar 5) (tOp (rIxT K) (tVar 0) (tC (.int 1))))) (te := tVar 5) rfl scLFree.nd (pi_list (pv 2))
        (blkOk_by (own := [("name", 5)]) (N := NLF) (sc := defScope sLFree) (by decide +kernel)) (fun _ _ _ _ _ => pg_name (i := 5) scLFree.nd rfl (Or.inl rfl)) (fun _ _ _ _ _ => pts_one (pt_cmpR op_ne (pv 5) (pe_ix ix_tup (pv 0) pe_int (fun _ _ => rfl)) (nomark _))) (fun _ _ _ _ _ => pv 5)))) pss_nil)
    (pss_one (ps_ret (pv 2))))))), ?_⟩
  refine ⟨_, rfl, a, t, rfl, hR, ho, fun H1 p cs g1 e1 al => ⟨Nat.zero_le _, fun F0 hF0 => ?_⟩⟩
  have g2 := same_new (o := .lst []) hF0
  have kl := kids_le t
  have knn := kids_nn t
  refine ⟨fun σ' H' => ∃ (y3 y4 y5 y6 : Option V) (F : Addr) (L : List Str), σ' = [some (.ref a), some (.ref p), some (.ref F), y3, y4, y5, y6] ∧ Same H1 H' ∧ H' F = some (.lst (L.map V.str)) ∧ LF L ((kids t).flatMap Fv), ?_, ?_⟩
  · refine ⟨_, rfl, p, rfl, ⟨_, SqL.of (g2 _ _ e1)⟩, ?_⟩
    refine for_list (xs := cs.map V.ref) (fun i σ' H' => ∃ (y3 y4 y5 y6 : Option V) (F : Addr) (L : List Str), σ' = [some (.ref a), some (.ref p), some (.ref F), y3, y4, y5, y6] ∧ Same H1 H' ∧ H' F = some (.lst (L.map V.str)) ∧ LF L (((kids t).take i).flatMap Fv))
      ⟨none, none, none, none, F0, [], rfl, g2, upd_same, List.nodup_nil, fun x => by simp⟩ (fun i σ' H2 hi pv => ?_) (fun i x σ' H2 hx pv => ?_) fun σ' H2 pv => ?_
    · obtain ⟨_, _, _, _, _, _, rfl, g, _⟩ := pv
      exact SqL.of (g _ _ e1)
    · obtain ⟨y3, y4, y5, y6, F, L, rfl, g, eF, lf⟩ := pv
      rw [List.getElem?_map] at hx
      obtain ⟨c, hc1, rfl⟩ : ∃ c, cs[i]? = some c ∧ x = .ref c := by
        cases z : cs[i]? with
        | none => rw [z] at hx; cases hx
        | some c => rw [z] at hx; exact ⟨c, rfl, (Option.some.inj hx).symm⟩
      obtain ⟨s', hs', rc⟩ := al.get hc1
      have hm := List.mem_of_getElem? hs'
      have hdk := dep_kid hm
      have hnk := nn_kid hm
      have hl1 : L.length ≤ 63 := by
        have z := lf.len
        have y : (((kids t).take i).flatMap Fv).length ≤ ((kids t).flatMap Fv).length := by
          have e : (kids t).flatMap Fv = ((kids t).take i).flatMap Fv ++ ((kids t).drop i).flatMap Fv := by rw [← List.flatMap_append, List.take_append_drop]
          rw [e, List.length_append]
          omega
        omega
      refine ⟨_, rfl, _, rfl, c, s', rfl, rc.same g, ok_kids ho s' hm, sok_kids hs s' hm, by omega, by omega, by omega, fun H3 p3 L3 g3 e3 lf3 => ⟨p3, rfl, ⟨_, SqL.of e3⟩, fun D hD => ?_⟩⟩
      have hl3 : L3.length ≤ 63 := by
        have := lf3.len
        have := fv_le s'
        omega
      have eF3 := g3 _ _ eF
      refine lc_list (xs := L3.map V.str) (fun j H4 => Same H3 H4 ∧ H4 D = some (.lst (((L3.take j).filter fun y => !decide (y ∈ L)).map V.str))) ⟨same_new hD, upd_same⟩ (fun j H4 hj pv => SqL.of (pv.1 _ _ e3)) (fun j v H4 hv pv => ?_) fun H4 pv => ?_
      · obtain ⟨g4, eD⟩ := pv
        obtain ⟨y, hy, rfl⟩ := str_at hv
        have hlen : ((L3.take j).filter fun y => !decide (y ∈ L)).length ≤ 63 := Nat.le_trans (List.length_filter_le _ _) (Nat.le_trans (List.length_take_le' _ _) hl3)
        refine ⟨rfl, _, rfl, _, rfl, F, _, rfl, .inl (SqL.of (g4 _ _ eF3)), rfl, flat_strs _, _, rfl, ?_⟩
        rw [inV_str]
        by_cases e : y ∈ L
        · rw [decide_eq_true e]
          refine iteNT ⟨g4, ?_⟩
          have e9 : [y].filter (fun y => !decide (y ∈ L)) = [] := by rw [List.filter_cons, if_neg (by rw [decide_eq_true e]; decide), List.filter_nil]
          rw [eD, List.take_add_one, hy, Option.toList_some, List.filter_append, e9, List.append_nil]
        · rw [decide_eq_false e]
          refine iteNF ⟨_, rfl, _, eD, small' (by rw [List.length_map]; omega), same_fresh hD g4, ?_⟩
          have e9 : [y].filter (fun y => !decide (y ∈ L)) = [y] := by rw [List.filter_cons, if_pos (by rw [decide_eq_false e]; rfl), List.filter_nil]
          rw [upd_same, List.take_add_one, hy, Option.toList_some, List.filter_append, e9, List.map_append]
          rfl
      · obtain ⟨g4, eD⟩ := pv
        rw [List.length_map, List.take_length] at eD
        have hlen : (L3.filter fun y => !decide (y ∈ L)).length ≤ 63 := Nat.le_trans (List.length_filter_le _ _) hl3
        refine ⟨F, D, _, _, rfl, rfl, g4 _ _ eF3, eD, ?_, fun r hr9 => ?_⟩
        · rw [List.length_map, List.length_map]
          exact small (by omega)
        refine ⟨_, y4, _, y6, r, L ++ L3.filter (fun y => !decide (y ∈ L)), rfl, ((g.trans g3).trans g4).trans (same_new hr9), ?_, ?_⟩
        · rw [upd_same, List.map_append]
        · rw [List.take_add_one, hs', Option.toList_some, List.flatMap_append, List.flatMap_cons, List.flatMap_nil, List.append_nil]
          exact lf.cat lf3
    · obtain ⟨y3, y4, y5, y6, F, L, rfl, g, eF, lf⟩ := pv
      rw [List.length_map, al.len, List.take_length] at lf
      exact ⟨y3, y4, y5, y6, F, L, rfl, g, eF, lf⟩
  · rintro σ' H2 ⟨y3, y4, y5, y6, F, L, rfl, g, eF, lf⟩
    refine ⟨fun σ' H' => ∃ (y3 y4 y5 y6 : Option V) (F : Addr) (L : List Str), σ' = [some (.ref a), some (.ref p), some (.ref F), y3, y4, y5, y6] ∧ Same H1 H' ∧ H' F = some (.lst (L.map V.str)) ∧ LF L (baseN t), ?_, ?_⟩
    · refine ⟨_, rfl, Nat.zero_le _, fun l0 hl0 => ?_⟩
      have g3 := same_new (o := .lst []) hl0
      have g13 := g.trans g3
      refine ⟨.list ((kids t).map dF), .list [], .lst (SqL.of (g13 _ _ e1)) (al_data (al.mono fun a s z => z.same g13)), .lst (SqL.of upd_same) .nil, shaped_list fun d hd' => ?_, rfl, ?_⟩
      · obtain ⟨s', hs', rfl⟩ := List.mem_map.mp hd'
        have := dF_deep s'
        have := dep_kid hs'
        exact ⟨dF_lay (sok_kids hs s' hs'), by omega⟩
      rw [eqvF_nil]
      refine ⟨_, rfl, ?_⟩
      by_cases hk0 : kids t = []
      · rw [decide_eq_true hk0]
        refine iteT' ?_
        obtain ⟨hh, rfl⟩ : ∃ hh, t = .leaf hh := by
          cases t with
          | leaf hh => exact ⟨hh, rfl⟩
          | un _ _ => cases hk0
          | bin _ _ _ => cases hk0
        obtain ⟨wd, r, eh, _⟩ := head_of ho
        have eh' : hh = .inr wd :: r := eh
        obtain ⟨lc, l2⟩ := leaf_drop (show AtOk hh from ho) eh'
        have ea : H a = some (.tup (hh.map kV)) := by
          cases hR with
          | leaf e => exact e
        have h0 : (hh.map kV)[0]? = some (.str wd) := by rw [eh']; rfl
        have hpos : 0 < (hh.map kV).length := by rw [eh']; simp
        generalize upd H2 l0 (.lst []) = H3 at *
        refine ⟨_, rfl, a, _, 0, _, rfl, rfl, SqT.of (g13 _ _ (g1 _ _ ea)), atI_nat (j := 0) h0, (by show 2 ≤ sizeLine; exact small (by decide)), fun l1 hl1 => ?_⟩
        have g4 := g13.trans (same_new (o := .lst [.str "label", .str "child"]) hl1)
        refine ⟨l1, (["label", "child"] : List Str).map V.str, rfl, .inl (SqL.of upd_same), rfl, rfl, _, rfl, ?_⟩
        rw [inV_str]
        have eF4 : (upd H3 l1 (.lst [.str "label", .str "child"])) F = some (.lst (L.map V.str)) := same_new hl1 _ _ (g3 _ _ eF)
        generalize upd H3 l1 (.lst [.str "label", .str "child"]) = H4 at *
        have go : ∀ (H5 : Hp) (p4 : Addr), Same H4 H5 → H5 p4 = some (.tup ((leafN hh).map V.str)) → ∀ {Dn : Ends}, (∀ σ' H', (∃ (y3 y4 y5 y6 : Option V) (F : Addr) (L : List Str), σ' = [some (.ref a), some (.ref p), some (.ref F), y3, y4, y5, y6] ∧ Same H1 H' ∧ H' F = some (.lst (L.map V.str)) ∧ LF L (leafN hh)) → Dn.nx σ' H') →
            tAsg (tLc (iRng1 (tCons (tCB (fun xs H Q => ∃ p ys, xs = [.ref p] ∧ (SqL K H p ys ∨ SqT K H p ys) ∧ Q (.int ys.length) H) (tCons (tVar 4) tNil)) tNil)) (gName 6) (tTest (tOp (rIn K true) (tOp (rIxT K) (tVar 4) (tVar 6)) (tSl (rSlA K) (tVar 4) tNoPart (tPart (tVar 6))))) (tOp (rIxT K) (tVar 4) (tVar 6)) [6]) (gName 2) Dn
              [some (.ref a), some (.ref p), some (.ref F), y3, some (.ref p4), y5, y6] H5 := by
          intro H5 p4 g5 e5 Dn fin
          refine ⟨_, rfl, p4, _, rfl, .inr (SqT.of e5), _, rfl, by omega, by rw [List.length_map]; omega, fun D hD => ?_⟩
          refine lc_range (lo := 0) (n := ((((leafN hh).map V.str).length : Nat) : Int).toNat) (fun j H6 => Same H5 H6 ∧ ∃ L6, H6 D = some (.lst (L6.map V.str)) ∧ LF L6 ((leafN hh).take j)) ⟨same_new hD, [], upd_same, List.nodup_nil, fun x => by simp⟩ (fun j H6 hj pv => ?_) fun H6 pv => ?_
          · obtain ⟨g6, L6, e6, lf6⟩ := pv
            rw [Int.toNat_natCast, List.length_map] at hj
            have hlen6 : L6.length ≤ 2 := by
              have z := lf6.len
              rw [List.length_take] at z
              omega
            have hx6 : ((leafN hh).map V.str)[j]? = some (.str (leafN hh)[j]) := by rw [List.getElem?_map, List.getElem?_eq_getElem hj]; rfl
            have hz : (0 : Int) + (j : Int) = ((j : Nat) : Int) := by omega
            rw [hz]
            refine ⟨rfl, _, rfl, _, rfl, p4, _, _, _, rfl, rfl, SqT.of (g6 _ _ e5), atI_nat (j := j) hx6, _, rfl, _, rfl, ?_⟩
            refine ⟨_, rfl, pre_sl (k := j) (g6 _ _ e5) (by rw [List.length_map]; exact hj) fun p7 H7 g7 e7 => ?_⟩
            rw [← List.map_take] at e7
            refine ⟨p7, _, rfl, .inr (SqT.of e7), rfl, flat_strs _, _, rfl, ?_⟩
            rw [inV_str]
            have hm6 : (leafN hh)[j] ∈ (leafN hh).take j ↔ (leafN hh)[j] ∈ L6 := (lf6.m _).symm
            by_cases hin : (leafN hh)[j] ∈ (leafN hh).take j
            · rw [decide_eq_true hin]
              refine iteNT ⟨g6.trans g7, L6, g7 _ _ e6, ?_⟩
              rw [List.take_succ_eq_append_getElem hj]
              exact lf6.skip (hm6.mp hin)
            · rw [decide_eq_false hin]
              refine iteNF ⟨_, rfl, _, rfl, p4, _, _, _, rfl, rfl, SqT.of (g7 _ _ (g6 _ _ e5)), atI_nat (j := j) hx6, _, g7 _ _ e6, small' (by rw [List.length_map]; omega), same_fresh hD (g6.trans g7), L6 ++ [(leafN hh)[j]], ?_, ?_⟩
              · rw [upd_same, List.map_append]
                rfl
              · rw [List.take_succ_eq_append_getElem hj]
                exact lf6.snoc fun z => hin (hm6.mpr z)
          · obtain ⟨g6, L6, e6, lf6⟩ := pv
            rw [Int.toNat_natCast, List.length_map, List.take_length] at lf6
            exact fin _ _ ⟨_, _, _, _, D, L6, rfl, (g4.trans g5).trans g6, e6, lf6⟩
        have ea4 := g4 _ _ (g1 _ _ ea)
        rcases lc with ⟨lm, ld, ll⟩ | ⟨lm, ld⟩
        · rw [decide_eq_true lm]
          refine iteT' ⟨_, rfl, _, rfl, ?_⟩
          refine post_sl (k := 2) ea4 (by decide) hpos fun p4 H5 g5 e5 => ?_
          rw [ld] at e5
          exact go H5 p4 g5 e5 fun σ' H' z => z
        · rw [decide_eq_false lm]
          refine iteF' ⟨_, rfl, _, rfl, ?_⟩
          refine post_sl (k := 1) ea4 (by decide) hpos fun p4 H5 g5 e5 => ?_
          rw [ld] at e5
          exact go H5 p4 g5 e5 fun σ' H' z => z
      · rw [decide_eq_false hk0]
        refine iteF' ⟨y3, y4, y5, y6, F, L, rfl, g13, g3 _ _ eF, ?_⟩
        have e : baseN t = (kids t).flatMap Fv := by
          cases t with
          | leaf h => exact absurd rfl hk0
          | un h f => rfl
          | bin h f g => rfl
        rw [e]
        exact lf
    · rintro σ' H3 ⟨y3, y4, y5, y6, F, L, rfl, g, eF, lf⟩
      refine ⟨fun σ' H' => ∃ (y3 y4 y5 y6 : Option V) (F : Addr) (L : List Str), σ' = [some (.ref a), some (.ref p), some (.ref F), y3, y4, y5, y6] ∧ Same H1 H' ∧ H' F = some (.lst (L.map V.str)) ∧ LF L (Fv t), ?_, ?_⟩
      · obtain ⟨xs, wd, ex, h0, cs'⟩ := places ho hR
        have ex3 := g _ _ (g1 _ _ ex)
        refine ⟨_, rfl, a, _, 0, _, rfl, rfl, SqT.of ex3, atI_nat (j := 0) h0, (by show 4 ≤ sizeLine; exact small (by decide)), fun l1 hl1 => ?_⟩
        have g4 := same_new (o := .lst [.str "some", .str "all", .str "someset", .str "allset"]) hl1
        refine ⟨l1, WQ.map V.str, rfl, .inl (SqL.of upd_same), rfl, rfl, _, rfl, ?_⟩
        rw [inV_str]
        have eF4 := g4 _ _ eF
        have ex4 := g4 _ _ ex3
        have g14 := g.trans g4
        generalize upd H3 l1 (.lst [.str "some", .str "all", .str "someset", .str "allset"]) = H4 at *
        by_cases hq : wd ∈ WQ
        · rw [decide_eq_true hq]
          refine iteT' ?_
          rcases cs' with ⟨hw, _⟩ | ⟨hw, _⟩ | ⟨_, x, fm, c, rfl, h1, h2, rc⟩ | ⟨hw, _⟩
          · exact absurd hw (w_notQ wd hq).1
          · exact absurd hw (w_notQ wd hq).2
          · have hl1' : L.length ≤ 63 := by
              have z := lf.len
              have y : (baseN (Fm.un [.inr wd, .inr x] fm)).length = ((kids (Fm.un [.inr wd, .inr x] fm)).flatMap Fv).length := rfl
              omega
            refine ⟨_, rfl, F, rfl, ⟨_, SqL.of eF4⟩, fun D hD => ?_⟩
            refine lc_list (xs := L.map V.str) (fun j H5 => Same H4 H5 ∧ H5 D = some (.lst (((L.take j).filter fun y => decide (y ≠ x)).map V.str))) ⟨same_new hD, upd_same⟩ (fun j H5 hj pv => SqL.of (pv.1 _ _ eF4)) (fun j v H5 hv pv => ?_) fun H5 pv => ?_
            · obtain ⟨g5, eD⟩ := pv
              obtain ⟨y, hy, rfl⟩ := str_at hv
              have hlen : ((L.take j).filter fun y => decide (y ≠ x)).length ≤ 63 := Nat.le_trans (List.length_filter_le _ _) (Nat.le_trans (List.length_take_le' _ _) hl1')
              refine ⟨rfl, _, rfl, _, rfl, a, _, 1, _, rfl, rfl, SqT.of (g5 _ _ ex4), atI_nat (j := 1) h1, rfl, _, rfl, ?_⟩
              by_cases e : y = x
              · subst e
                rw [decide_eq_true rfl]
                refine iteNT ⟨g5, ?_⟩
                rw [eD, List.take_add_one, hy, Option.toList_some, List.filter_append]
                simp
              · rw [decide_eq_false (fun z => e (by injection z))]
                refine iteNF ⟨_, rfl, _, eD, small' (by rw [List.length_map]; omega), same_fresh hD g5, ?_⟩
                rw [upd_same, List.take_add_one, hy, Option.toList_some, List.filter_append, List.map_append]
                have e1 : [y].filter (fun y => decide (y ≠ x)) = [y] := by rw [List.filter_cons, if_pos (decide_eq_true e), List.filter_nil]
                rw [e1]
                rfl
            · obtain ⟨g5, eD⟩ := pv
              rw [List.length_map, List.take_length] at eD
              refine ⟨_, _, _, _, D, _, rfl, g14.trans g5, eD, ?_⟩
              have z := lf.filter (fun y => decide (y ≠ x))
              have e9 : baseN (Fm.un [.inr wd, .inr x] fm) = Fv fm := by
                show (kids (Fm.un [.inr wd, .inr x] fm)).flatMap Fv = _
                simp [kids]
              rw [e9] at z
              exact z
          · exact absurd hq (w_not wd hw).2.2
        · rw [decide_eq_false hq]
          refine iteF' ⟨y3, y4, y5, y6, F, L, rfl, g14, eF4, ?_⟩
          have e9 : baseN t = Fv t := by
            rcases cs' with ⟨_, h, f, c, rfl, _⟩ | ⟨_, h, f, g, c, d, rfl, _⟩ | ⟨hw, _⟩ | ⟨_, h, rfl, _⟩
            · obtain ⟨w2, r2, eh2, _⟩ := head_of ho
              have hw2 : w2 = wd := by
                obtain ⟨cs3, ex5, _⟩ := hR.tup
                rw [ex] at ex5
                injection ex5 with z
                injection z with z
                rw [z, eh2] at h0
                injection h0 with z
                injection z with z
              exact (fv_kids ho eh2 (hw2 ▸ hq) (by simp [kids])).symm
            · show (kids (Fm.bin h f g)).flatMap Fv = Fv (Fm.bin h f g)
              simp [kids, Fv]
            · exact absurd hw hq
            · rfl
          rw [← e9]
          exact lf
      · rintro σ' H4 ⟨y3, y4, y5, y6, F, L, rfl, g, eF, lf⟩
        exact ⟨_, rfl, q H4 F L (g1.trans g) eF lf⟩
end
end K03

set_option Elab.async false
set_option linter.all false
set_option maxRecDepth 100000
set_option maxHeartbeats 4000000
namespace K03
open PySem PySem.Spec PyProof.Rows L2 XS XCS XL LamX XM
/-! ### _law_fits, _law_told -/
def FitsP (two : Bool) (ls : List Str) (t : Fm) : Prop := ∀ s ∈ parts t, wok two ls s.hd = true ∧ fewG s
theorem fits_iff {two : Bool} {ls : List Str} {t : Fm} : FitsP two ls t ↔ wok two ls t.hd = true ∧ fewG t ∧ ∀ s ∈ kids t, FitsP two ls s := by
  unfold FitsP
  rw [parts_eq]
  refine ⟨fun h => ⟨(h t (by simp)).1, (h t (by simp)).2, fun s hs u hu => h u (List.mem_cons_of_mem _ (List.mem_flatMap.mpr ⟨s, hs, hu⟩))⟩, fun ⟨h1, h2, h3⟩ s hs => ?_⟩
  rcases List.mem_cons.mp hs with rfl | hs
  · exact ⟨h1, h2⟩
  · obtain ⟨u, hu, hsu⟩ := List.mem_flatMap.mp hs
    exact h3 u hu s hsu
theorem LF.few {L xs : List Str} (h : LF L xs) : L.length = (once xs).length := ((List.perm_ext_iff_of_nodup h.n (once_nd xs)).mpr fun a => (h.m a).trans once_mem.symm).length_eq
abbrev sFits : Stmt := top 46
abbrev sTold : Stmt := top 47
theorem scFits : FnScope ["kind", "formula", "part"] ["kind", "formula"] (defScope sFits) := ⟨rfl, rfl, rfl, by decide +kernel, rfl, by decide +kernel, by decide +kernel⟩
theorem scTold : FnScope ["kind", "formula", "closed", "found", "e"] ["kind", "formula", "closed"] (defScope sTold) := ⟨rfl, rfl, rfl, by decide +kernel, rfl, by decide +kernel, by decide +kernel⟩
def spFits (n : Nat) : Sp := fun vs H Q _ => ∃ (k a : Addr) (two : Bool) (ls : List Str) (t : Fm), vs = [.ref k, .ref a] ∧ KindAt H k two ls ∧ Rep H a t ∧ Ok t ∧ SOk t ∧ dep t < n ∧ dep t ≤ 56 ∧ nn t ≤ 63 ∧ ∀ H' b, Same H H' → (b = true ↔ FitsP two ls t) → Q (.bl b) H'
theorem no_fits {P : Program} {w : World} {K : PySem.W.Frag} {mg : Str → Option Value} {base : Heap} {f : Addr} {fd : FuncData} {m : Nat} : FnOk P w K mg base CX0 m f fd ["kind", "formula"] (spFits 0) := by
  have no : ∀ vs H Q E, ¬ spFits 0 vs H Q E := fun vs H Q E h => by
    obtain ⟨k, a, two, ls, t, _, _, _, _, _, h, _⟩ := h
    exact absurd h (Nat.not_lt_zero _)
  exact ⟨fun vs H Q E h => absurd h (no vs H Q E), fun A outer s H args us vs Q E _ _ _ _ h => absurd h (no vs H Q E)⟩
def spTold (Pt : Addr) : Sp := fun vs H Q _ => ∃ (k a : Addr) (two cl : Bool) (ls : List Str) (t : Fm), vs = [.ref k, .ref a, .bl cl] ∧ KindAt H k two ls ∧ Rep H a t ∧ Ok t ∧ num t ≤ 400 ∧ nn t ≤ 63 ∧ Tabs [(Pt, lamQ)] H ∧
  ∀ H' b, ExtN H H' → Tabs [(Pt, lamQ)] H' → (b = true ↔ GoodF two ls t ∧ (cl = true → Fv t = [])) → Q (.str (if b then "yes" else "no")) H'
section
variable {P : Program} {w : World} {K : PySem.W.Frag} {mg : Str → Option Value} {base : Heap}
theorem ok_fits {f g l : Addr} {fd gd ld : FuncData} {m n : Nat} (F : Fun K "_law_fits" "_law_fits" sFits f fd) (G : FnOk P w K mg base CX0 m g gd ["formula"] spLInner) (bG : Binds K gd ["formula"] []) (kG : PySem.W.keepIn K (.ref g) = true) (mG : mg "_law_inner" = some (.ref g))
    (GL : FnOk P w K mg base CX0 m l ld ["formula"] (spLFree 57)) (bL : Binds K ld ["formula"] []) (kL : PySem.W.keepIn K (.ref l) = true) (mL : mg "_law_free" = some (.ref l))
    (S : FnOk P w K mg base CX0 (m + n) f fd ["kind", "formula"] (spFits n)) (bS : Binds K fd ["kind", "formula"] []) (mS : mg "_law_fits" = some (.ref f)) (ma : mg "all" = none) (ml : mg "len" = none) : FnOk P w K mg base CX0 (m + n + 1) f fd ["kind", "formula"] (spFits (n + 1)) := by
  refine F.ok scFits (fun vs H Q E h => ?_) (fun cdv A outer s H vs Q E hr h => ?_)
  · obtain ⟨k, a, two, ls, t, rfl, _⟩ := h
    rfl
  obtain ⟨k, a, two, ls, t, rfl, hK, hR, ho, hs, hd, hd2, hn, q⟩ := h
  have hrm : Room m _ := hr.mono (Nat.le_add_right m n)
  refine ⟨_, C8.pss_cut (ps_if (PW.pt (pw_or (PW.pt (pw_and (pt_cmpR op_eq (pe_ix ix_tup (pv 1) pe_int (fun _ _ => rfl)) pe_str (nomark _)) (pw_and1 (pt_cmpR op_notIn_seq (pe_ix ix_tup (pv 1) pe_int (fun _ _ => rfl)) (pe_ix ix_tup (pv 0) pe_int (fun _ _ => rfl)) (by rfl)))))
      (pw_or1 (PW.pt (pw_and (pt_cmpR op_eq (pe_ix ix_tup (pv 1) pe_int (fun _ _ => rfl)) pe_str (nomark _)) (pw_and1 (pt_cmpR op_ge (pe_ix ix_tup (pv 1) pe_int (fun _ _ => rfl)) (pe_ix ix_tup (pv 0) pe_int (fun _ _ => rfl)) (nomark _)))))))) (pss_one (ps_ret pe_bl)) pss_nil)
    (pss_one (ps_ret (pe_and (pe_cmpR op_le (pe_callB call_len_seq (by rfl) ml PySem.boot_len (pa_cons (pe_call GL hrm (by rfl) mL kL bL .nil pass0 (pa_cons (pv 1) pa_nil)) pa_nil)) pe_int (nomark _)) (pe_one
      (pe_callB (cr_all rfl) (by rfl) ma (by decide +kernel) (pa_cons (pe_lc (own := [("part", 2)]) (g := gName 2) (tt := tYes) (te := tCall (spFits n) [] E0 (tCons (tVar 0) (tCons (tVar 2) tNil))) rfl scFits.nd (pi_list (pe_call G hrm (by rfl) mG kG bG .nil pass0 (pa_cons (pv 1) pa_nil)))
        (blkOk_by (own := [("part", 2)]) (N := ["kind", "formula", "part"]) (sc := defScope sFits) (by decide +kernel)) (fun _ _ _ _ _ => pg_name (i := 2) scFits.nd rfl (Or.inl rfl)) (fun _ _ _ _ _ => pts_nil)
        (fun _ _ _ _ _ => pe_call S hr (by rfl) mS F.kp bS .nil pass0 (pa_cons (pv 0) (pa_cons (pv 2) pa_nil)))) pa_nil)))))), ?_⟩
  obtain ⟨cs, ex, al0⟩ := hR.tup
  obtain ⟨wd, r, eh, har, hop, hm, hl4⟩ := head_of ho
  obtain ⟨w1, w2, w3⟩ := word_at ho eh
  obtain ⟨lab, ek, el, hls⟩ := id hK
  have h0 : (t.hd.map kV ++ cs.map V.ref)[0]? = some (.str wd) := by rw [eh]; rfl
  have kl := kids_le t
  have bad : wok two ls t.hd = false → Q (.bl false) H := fun hw => by
    refine q H false (Same.refl H) ⟨(fun z => nomatch z), fun z => ?_⟩
    have := (fits_iff.mp z).1
    rw [hw] at this
    cases this
  refine ⟨fun σ' H' => σ' = [some (.ref k), some (.ref a), none] ∧ H' = H ∧ wok two ls t.hd = true, ?_, ?_⟩
  · refine ⟨_, rfl, a, _, 0, _, rfl, rfl, SqT.of ex, atI_nat (j := 0) h0, rfl, _, rfl, ?_⟩
    by_cases h1 : wd = "label"
    · obtain ⟨l, x, rfl⟩ := w1 h1
      have hx1 : ((Fm.leaf [.inr "label", .inr l, .inr x]).hd.map kV ++ cs.map V.ref)[1]? = some (.str l) := rfl
      subst h1
      rw [decide_eq_true rfl]
      refine iteT' ?_
      refine ⟨_, rfl, a, _, 1, _, rfl, rfl, SqT.of ex, atI_nat (j := 1) hx1, _, rfl, k, _, 1, _, rfl, rfl, SqT.of ek, rfl, lab, _, rfl, .inr (SqT.of el), rfl, flat_strs _, _, rfl, ?_⟩
      rw [inV_str]
      by_cases ha : l ∈ ls
      · rw [decide_eq_true ha]
        refine iteNT ?_
        refine ⟨_, rfl, a, _, 0, _, rfl, rfl, SqT.of ex, atI_nat (j := 0) h0, rfl, _, rfl, ?_⟩
        refine iteF' (iteF' ⟨rfl, rfl, ?_⟩)
        show (!decide ((Str.ofString "label") = Str.ofString "label") || decide (l ∈ ls)) = true
        rw [decide_eq_true ha]
        simp
      · rw [decide_eq_false ha]
        refine iteNF (bad ?_)
        show (!decide ((Str.ofString "label") = Str.ofString "label") || decide (l ∈ ls)) = false
        rw [decide_eq_false ha]
        simp
    · rw [str_ne h1]
      refine iteF' (iteF' ?_)
      refine ⟨_, rfl, a, _, 0, _, rfl, rfl, SqT.of ex, atI_nat (j := 0) h0, rfl, _, rfl, ?_⟩
      by_cases h2 : wd = "child"
      · obtain ⟨i, x, y, rfl⟩ := w2 h2
        have hx1 : ((Fm.leaf [.inr "child", .inl (i : Int), .inr x, .inr y]).hd.map kV ++ cs.map V.ref)[1]? = some (.int (i : Int)) := rfl
        subst h2
        rw [decide_eq_true rfl]
        refine iteT' ?_
        refine ⟨_, rfl, a, _, 1, _, rfl, rfl, SqT.of ex, atI_nat (j := 1) hx1, _, rfl, k, _, 0, _, rfl, rfl, SqT.of ek, rfl, _, _, rfl, rfl, _, rfl, ?_⟩
        have ew : wok two ls [.inr "child", .inl (i : Int), .inr x, .inr y] = decide ((i : Int) < if two = true then 2 else 1) := by
          show (!decide ((Str.ofString "child") = Str.ofString "child") || decide ((0 : Int) ≤ (i : Int) ∧ (i : Int) < if two = true then 2 else 1)) = _
          rw [decide_eq_true rfl]
          by_cases z : (i : Int) < if two = true then 2 else 1
          · rw [decide_eq_true z, decide_eq_true ⟨by omega, z⟩]
            rfl
          · rw [decide_eq_false z, decide_eq_false fun y => z y.2]
            rfl
        have ew' : wok two ls (Fm.leaf [.inr "child", .inl (i : Int), .inr x, .inr y]).hd = _ := ew
        by_cases z : (i : Int) < if two = true then 2 else 1
        · rw [decide_eq_false (by omega)]
          exact iteF' ⟨rfl, rfl, ew'.trans (decide_eq_true z)⟩
        · rw [decide_eq_true (by omega)]
          exact iteT' (bad (ew'.trans (decide_eq_false z)))
      · rw [str_ne h2]
        exact iteF' (iteF' ⟨rfl, rfl, w3 h1 h2 two ls⟩)
  · rintro σ' H' ⟨rfl, rfl, hw⟩
    refine ⟨_, rfl, a, t, rfl, hR, ho, hs, by omega, hd2, hn, fun H1 p L g1 e1 lf => ?_⟩
    refine ⟨p, _, rfl, .inl (SqL.of e1), _, _, rfl, rfl, _, rfl, ?_⟩
    rw [List.length_map]
    have hfew := lf.few
    by_cases h6 : L.length ≤ 6
    · rw [decide_eq_true (by omega)]
      refine iteT' ?_
      have hf : fewG t := by
        show (once (Fv t)).length ≤ 6
        omega
      refine ⟨_, rfl, a, t, rfl, hR.same g1, ho, fun H2 p2 ds g2 e2 al => ⟨p2, rfl, ⟨_, SqL.of e2⟩, fun D hD => ?_⟩⟩
      refine lc_list (xs := ds.map V.ref) (fun i H3 => Same H2 H3 ∧ ∃ bs : List Bool, H3 D = some (.lst (bs.map V.bl)) ∧ bs.length ≤ i ∧ (bs.all id = true ↔ ∀ s ∈ (kids t).take i, FitsP two ls s)) ⟨same_new hD, [], upd_same, Nat.le_refl _, by simp⟩ (fun i H3 hi pv => SqL.of (pv.1 _ _ e2)) (fun i x H3 hx pv => ?_) fun H3 pv => ?_
      · obtain ⟨g3, bs, eD, hlb, hb⟩ := pv
        rw [List.getElem?_map] at hx
        obtain ⟨c, hc1, rfl⟩ : ∃ c, ds[i]? = some c ∧ x = .ref c := by
          cases z : ds[i]? with
          | none => rw [z] at hx; cases hx
          | some c => rw [z] at hx; exact ⟨c, rfl, (Option.some.inj hx).symm⟩
        obtain ⟨s', hs', rc⟩ := al.get hc1
        have hm' := List.mem_of_getElem? hs'
        have hdk := dep_kid hm'
        have hnk := nn_kid hm'
        have hik := (List.getElem?_eq_some_iff.mp hs').1
        refine ⟨rfl, yes_turn ?_⟩
        refine ⟨_, rfl, _, rfl, k, c, two, ls, s', rfl, hK.same ((g1.trans g2).trans g3), rc.same g3, ok_kids ho s' hm', sok_kids hs s' hm', by omega, by omega, by omega, fun H4 b g4 hb4 => ?_⟩
        refine ⟨_, g4 _ _ eD, small' (by rw [List.length_map]; omega), same_fresh hD (g3.trans g4), bs ++ [b], ?_, ?_, ?_⟩
        · rw [upd_same, List.map_append]
          rfl
        · rw [List.length_append, List.length_singleton]
          omega
        · rw [List.take_add_one, hs', Option.toList_some, List.all_append, Bool.and_eq_true, hb]
          constructor
          · rintro ⟨x1, x2⟩ s hs9
            rcases List.mem_append.mp hs9 with h | h
            · exact x1 s h
            · rw [List.mem_singleton.mp h]
              exact hb4.mp (by simpa using x2)
          · intro z
            exact ⟨fun s hs9 => z s (List.mem_append_left _ hs9), by simpa using hb4.mpr (z s' (by simp))⟩
      · obtain ⟨g3, bs, eD, hlb, hb⟩ := pv
        rw [List.length_map, al.len, List.take_length] at hb
        refine ⟨D, bs, rfl, SqL.of eD, ?_⟩
        exact q H3 _ ((g1.trans g2).trans g3) (hb.trans ⟨fun z => fits_iff.mpr ⟨hw, hf, z⟩, fun z => (fits_iff.mp z).2.2⟩)
    · rw [decide_eq_false (by omega)]
      refine iteF' ?_
      refine q H1 false g1 ⟨(fun z => nomatch z), fun z => ?_⟩
      have : (once (Fv t)).length ≤ 6 := (fits_iff.mp z).2.1
      omega
theorem ok_told {f gc gs C S Pt : Addr} {fd fc fs : FuncData} {k : Nat} (F : Fun K "_law_told" "_law_told" sTold f fd) (T : ExcT K mg "InvalidSentence" C) (TC : ExcC K C) (mS : mg "SayError" = some (.ref S)) (kS : PySem.W.kitOne K (.ref C) (.ref S) = some true)
    (Gc : FnOk P w K mg base (L2.CX P w) k gc fc ["kind", "formula"] (spCF Pt C)) (bc : Binds K fc ["kind", "formula"] []) (kc : PySem.W.keepIn K (.ref gc) = true) (mc : mg "check_formula" = some (.ref gc))
    (Gs : FnOk P w K mg base (L2.CX P w) k gs fs ["kind", "formula"] (spCS Pt C)) (bs : Binds K fs ["kind", "formula"] []) (ks : PySem.W.keepIn K (.ref gs) = true) (ms : mg "check_sentence" = some (.ref gs)) (mi : mg "isinstance" = none) :
    FnOk P w K mg base CX0 (k + 1) f fd ["kind", "formula", "closed"] (spTold Pt) := by
  refine F.ok scTold (fun vs H Q E h => ?_) (fun cdv A outer s H vs Q E hr h => ?_)
  · obtain ⟨k, a, two, cl, ls, t, rfl, _⟩ := h
    rfl
  obtain ⟨k, a, two, cl, ls, t, rfl, hK, hR, ho, hc, hn, hT, q⟩ := h
  refine ⟨_, pss_cons (ps_try_as (i := 4) (tb := fun W => tAsg (tIf (tB (tVar 2)) (tCallS (spCS Pt C) (WE W) (tCons (tVar 0) (tCons (tVar 1) tNil))) (tCallS (spCF Pt C) (WE W) (tCons (tVar 0) (tCons (tVar 1) tNil)))) (gName 3))
      (ts := fun a cls d => tRet (tIf (tB (tIsE K a cls d S 4)) (tC (.str "no")) (tC (.str "wrong")))) (Wout := fun _ _ _ _ => False) rfl rfl scTold.nd rfl rfl ⟨rfl, by decide, Or.inl T.g⟩ L2.takes0
      (fun W pn xe tk _ => pss_one (ps_set (i := 3) scTold.nd rfl (Or.inl rfl) (pe_ifExp (pt_val (by exact pv 2)) (by exact (pe_callS Gs hr rfl ms ks bs (fun σ => passAt tk σ) (by exact (pa_cons (pv 0) (pa_cons (pv 1) pa_nil))))) (by exact (pe_callS Gc hr rfl mc kc bc (fun σ => passAt tk σ) (by exact (pa_cons (pv 0) (pa_cons (pv 1) pa_nil))))))))
      (fun a oe cls d pn hz hf => pss_one (ps_ret (pe_ifExp (pt_val ⟨fun pins s σ H Q I h => by
        obtain ⟨D, rfl, rfl, C', h⟩ := h
        exact (pe_callB (call_isE C' hz hf) (by rfl) mi (by decide +kernel) (pa_cons (pv 4) (pa_cons (pe_glob (by rfl) mS (v := .ref S) rfl) pa_nil))).run pins s σ H Q I h⟩) (by exact pe_str) (by exact pe_str)))))
    (pss_one (ps_ret (pe_ifExp (pt_cmpR op_isN (pv 3) pe_non (nomark _)) pe_str pe_str))), ?_⟩
  have bad : ∀ {σ : L2.St} {H1 : Hp} (h : ¬ (GoodF two ls t ∧ (cl = true → Fv t = []))), ExtN H H1 → Tabs [(Pt, lamQ)] H1 → Q (.str "no") H1 := fun h e1 t1 => q _ false e1 t1 ⟨(fun z => nomatch z), fun z => absurd z h⟩
  refine ⟨_, rfl, cl, rfl, ?_⟩
  cases cl with
  | true =>
    refine iteT' ?_
    refine ⟨_, rfl, _, rfl, k, a, two, ls, t, rfl, hK, hR, ho, hc, hn, hT, fun hg H1 e1 t1 => ?_, fun hg H1 e1 t1 => ⟨true, T.e, fun _ a' ha' => ?_, fun z => nomatch z⟩⟩
    · refine ⟨_, rfl, rfl, _, rfl, ifT rfl ?_⟩
      exact q H1 true e1 t1 ⟨fun _ => ⟨hg.1, fun _ => hg.2⟩, fun _ => rfl⟩
    · exact ⟨C, rfl, rfl, TC, _, rfl, _, .ref S, true, rfl, fun u hu => hu, kS, true, rfl, iteT' (q H1 false e1 t1 ⟨(fun z => nomatch z), fun z => absurd ⟨z.1, z.2 rfl⟩ hg⟩)⟩
  | false =>
    refine iteF' ?_
    refine ⟨_, rfl, _, rfl, k, a, two, ls, t, rfl, hK, hR, ho, hc, hn, hT, fun hg H1 e1 t1 => ?_, fun hg H1 e1 t1 => ⟨true, T.e, fun _ a' ha' => ?_, fun z => nomatch z⟩⟩
    · refine ⟨_, rfl, rfl, _, rfl, ifT rfl ?_⟩
      exact q H1 true e1 t1 ⟨fun _ => ⟨hg, (fun z => nomatch z)⟩, fun _ => rfl⟩
    · exact ⟨C, rfl, rfl, TC, _, rfl, _, .ref S, true, rfl, fun u hu => hu, kS, true, rfl, iteT' (q H1 false e1 t1 ⟨(fun z => nomatch z), fun z => absurd z.1 hg⟩)⟩
end
end K03

set_option Elab.async false
set_option linter.all false
set_option maxRecDepth 100000
set_option maxHeartbeats 4000000
namespace K03
open PySem PySem.Spec PyProof.Rows L2 XS XCS XL LamX XM
/-! ### law -/
abbrev sLaw : Stmt := top 48
def NL : List Str := ["script", "tape", "kind", "formula", "choice", "k", "right", "closed"]
theorem scLaw : FnScope NL ["script"] (defScope sLaw) := ⟨rfl, rfl, rfl, by decide +kernel, rfl, by decide +kernel, by decide +kernel⟩
def spLaw (K : PySem.W.Frag) (Pt : Addr) : Sp := fun vs H Q _ => ∃ (a : Addr) (ns : List Int), vs = [.ref a] ∧ SqL K H a (ns.map V.int) ∧ ns.length ≤ 63 ∧ H Pt = some (.tbl #[]) ∧ ∀ H', Q (.bl true) H'
structure LWS (tp k Pt : Addr) (two : Bool) (ls : List Str) (a : Addr) (t : Fm) (H : Hp) : Prop where
  tape : TapeOk H tp
  kind : KindAt H k two ls
  rep : Rep H a t
  ok : Ok t
  sok : SOk t
  tbl : H Pt = some (.tbl #[])
theorem LWS.new {tp k Pt a p : Addr} {two : Bool} {ls : List Str} {t t' : Fm} {H : Hp} {xs : List V} (L : LWS tp k Pt two ls a t H) (hp : H p = none) (r : Rep (upd H p (.tup xs)) p t') (o : Ok t') (so : SOk t') : LWS tp k Pt two ls p t' (upd H p (.tup xs)) :=
  ⟨L.tape.same (same_new hp), L.kind.same (same_new hp), r, o, so, same_new hp _ _ L.tbl⟩
theorem LWS.same {tp k Pt a : Addr} {two : Bool} {ls : List Str} {t : Fm} {H H' : Hp} (L : LWS tp k Pt two ls a t H) (g : Same H H') : LWS tp k Pt two ls a t H' := ⟨L.tape.same g, L.kind.same g, L.rep.same g, L.ok, L.sok, g _ _ L.tbl⟩
theorem tblNe {tp Pt : Addr} {H : Hp} (T : TapeOk H tp) (e : H Pt = some (.tbl #[])) : Pt ≠ tp := fun z => by
  obtain ⟨kvs, c, T⟩ := T
  rw [z, T.dict] at e
  cases e
theorem LWS.but {tp k Pt a : Addr} {two : Bool} {ls : List Str} {t : Fm} {H H' : Hp} (L : LWS tp k Pt two ls a t H) (b : But tp H H') (T : TapeOk H' tp) : LWS tp k Pt two ls a t H' := ⟨T, L.kind.but L.tape b, L.rep.keepT (L.tape.keepT b), L.ok, L.sok, b _ _ (tblNe L.tape L.tbl) L.tbl⟩
theorem cut3 {z : Int} (h0 : 0 ≤ z) (h3 : z < 3) : ∃ xs : List Str, cutV [V.str "x", .str "y", .str "u"] none (some (1 + z)) = xs.map V.str ∧ xs ≠ [] ∧ xs.length ≤ 3 ∧ ∀ x ∈ xs, x ∈ PN := by
  have hz : z = 0 ∨ z = 1 ∨ z = 2 := by omega
  rcases hz with rfl | rfl | rfl
  · exact ⟨["x"], rfl, by simp, by show 1 ≤ 3; decide, by decide +kernel⟩
  · exact ⟨["x", "y"], rfl, by simp, by show 2 ≤ 3; decide, by decide +kernel⟩
  · exact ⟨["x", "y", "u"], rfl, by simp, by show 3 ≤ 3; decide, by decide +kernel⟩
theorem cut2 {z : Int} (h0 : 0 ≤ z) (h3 : z < 3) : ∃ xs : List Str, cutV [V.str "X", .str "Y2"] none (some z) = xs.map V.str ∧ xs.length ≤ 3 ∧ ∀ x ∈ xs, x ∈ PN := by
  have hz : z = 0 ∨ z = 1 ∨ z = 2 := by omega
  rcases hz with rfl | rfl | rfl
  · exact ⟨[], rfl, by show 0 ≤ 3; decide, by decide +kernel⟩
  · exact ⟨["X"], rfl, by show 1 ≤ 3; decide, by decide +kernel⟩
  · exact ⟨["X", "Y2"], rfl, by show 2 ≤ 3; decide, by decide +kernel⟩
theorem v_ok : ∀ i : Nat, i < 8 → (Str.ofString (toString ((0 : Int) + (i : Int)))).length ≤ 100 ∧ PyData.strOk ((Str.ofString "v") ++ (Str.ofString (toString ((0 : Int) + (i : Int))))) = true := by decide +kernel
theorem log8 : ∀ i : Nat, i < 8 → ((0 : Int) + (i : Int)).natAbs.log2 < 1920 := by decide +kernel
theorem dep_num : ∀ t : Fm, dep t ≤ num t
  | .leaf h => by simp [dep, num, parts]
  | .un h f => by
    have := dep_num f
    rw [num_eq]
    simp only [dep, kids, List.map_cons, List.map_nil, List.sum_cons, List.sum_nil]
    omega
  | .bin h f g => by
    have a := dep_num f
    have b := dep_num g
    rw [num_eq]
    simp only [dep, kids, List.map_cons, List.map_nil, List.sum_cons, List.sum_nil]
    omega
theorem kok_fv : ∀ {h : List Key}, kOk h → ∀ x ∈ keyS h, PyData.strOk x = true
  | [], _, x, hx => by simp [keyS] at hx
  | .inl _ :: h, k, x, hx => kok_fv (h := h) (fun y hy => k y (List.mem_cons_of_mem _ hy)) x hx
  | .inr y :: h, k, x, hx => by
    rcases List.mem_cons.mp (show x ∈ y :: keyS h from hx) with rfl | hx
    · exact k _ List.mem_cons_self
    · exact kok_fv (h := h) (fun y hy => k y (List.mem_cons_of_mem _ hy)) x hx
theorem leafN_ok {h : List Key} (k : kOk h) : ∀ x ∈ leafN h, PyData.strOk x = true := by
  intro x hx
  cases h with
  | nil => simp [leafN] at hx
  | cons y r =>
    cases y with
    | inl i => simp [leafN] at hx
    | inr w =>
      have hx' : x ∈ (if w = "label" ∨ w = "child" then keyS (r.drop 1) else keyS r) := hx
      split at hx'
      · exact kok_fv (h := r.drop 1) (fun y hy => k y (List.mem_cons_of_mem _ (List.mem_of_mem_drop hy))) x hx'
      · exact kok_fv (h := r) (fun y hy => k y (List.mem_cons_of_mem _ hy)) x hx'
theorem fv_ok : ∀ {t : Fm}, SOk t → ∀ x ∈ Fv t, PyData.strOk x = true
  | .leaf h, k, x, hx => leafN_ok k x hx
  | .un h f, k, x, hx => by
    have ih := fv_ok k.2 x
    unfold Fv at hx
    split at hx
    · exact ih (List.mem_filter.mp hx).1
    · exact ih hx
  | .bin h f g, k, x, hx => by
    rcases List.mem_append.mp (show x ∈ Fv f ++ Fv g from hx) with hx | hx
    · exact fv_ok k.2.1 x hx
    · exact fv_ok k.2.2 x hx
section
variable {P : Program} {w : World} {K : PySem.W.Frag} {mg : Str → Option Value} {base : Heap}
theorem ok_law {f f1 f2 f3 f4 f5 f6 f7 f8 f9 f10 f11 Pt : Addr} {fd d1 d2 d3 d4 d5 d6 d7 d8 d9 d10 d11 : FuncData} (F : Fun K "law" "law" sLaw f fd)
    (G1 : FnOk P w K mg base CX0 1 f1 d1 ["script"] (spTape K)) (b1 : Binds K d1 ["script"] []) (k1 : PySem.W.keepIn K (.ref f1) = true) (m1 : mg "_law_tape" = some (.ref f1))
    (G2 : FnOk P w K mg base CX0 2 f2 d2 ["tape"] spLKind) (b2 : Binds K d2 ["tape"] []) (k2 : PySem.W.keepIn K (.ref f2) = true) (m2 : mg "_law_kind" = some (.ref f2))
    (G3 : FnOk P w K mg base CX0 1 f3 d3 ["tape", "many"] spTake) (b3 : Binds K d3 ["tape", "many"] []) (k3 : PySem.W.keepIn K (.ref f3) = true) (m3 : mg "_law_take" = some (.ref f3))
    (G4 : FnOk P w K mg base CX0 6 f4 d4 ["tape", "kind", "singles", "sets", "deep"] (spMat 4)) (b4 : Binds K d4 ["tape", "kind", "singles", "sets", "deep"] []) (k4 : PySem.W.keepIn K (.ref f4) = true) (m4 : mg "_law_matrix" = some (.ref f4))
    (G5 : FnOk P w K mg base CX0 6 f5 d5 ["actual", "expected"] (spSame K 3)) (b5 : Binds K d5 ["actual", "expected"] []) (k5 : PySem.W.keepIn K (.ref f5) = true) (m5 : mg "_law_same" = some (.ref f5))
    (G6 : FnOk P w K mg base CX0 4 f6 d6 ["formula"] spFree) (b6 : Binds K d6 ["formula"] []) (k6 : PySem.W.keepIn K (.ref f6) = true) (m6 : mg "free_variables" = some (.ref f6))
    (G7 : FnOk P w K mg base CX0 4 f7 d7 ["formula"] (spDep Pt)) (b7 : Binds K d7 ["formula"] []) (k7 : PySem.W.keepIn K (.ref f7) = true) (m7 : mg "depth" = some (.ref f7))
    (G8 : FnOk P w K mg base CX0 58 f8 d8 ["formula"] (spLFree 57)) (b8 : Binds K d8 ["formula"] []) (k8 : PySem.W.keepIn K (.ref f8) = true) (m8 : mg "_law_free" = some (.ref f8))
    (G9 : FnOk P w K mg base CX0 58 f9 d9 ["formula"] (spLDepth 57)) (b9 : Binds K d9 ["formula"] []) (k9 : PySem.W.keepIn K (.ref f9) = true) (m9 : mg "_law_depth" = some (.ref f9))
    (G10 : FnOk P w K mg base CX0 115 f10 d10 ["kind", "formula"] (spFits 57)) (b10 : Binds K d10 ["kind", "formula"] []) (k10 : PySem.W.keepIn K (.ref f10) = true) (m10 : mg "_law_fits" = some (.ref f10))
    (G11 : FnOk P w K mg base CX0 7 f11 d11 ["kind", "formula", "closed"] (spTold Pt)) (b11 : Binds K d11 ["kind", "formula", "closed"] []) (k11 : PySem.W.keepIn K (.ref f11) = true) (m11 : mg "_law_told" = some (.ref f11))
    (mr : mg "range" = none) (mst : mg "str" = none) (mso : mg "sorted" = none) : FnOk P w K mg base CX0 116 f fd ["script"] (spLaw K Pt) := by
  refine F.ok scLaw (fun vs H Q E h => ?_) (fun cdv A outer s H vs Q E hr h => ?_)
  · obtain ⟨a, ns, rfl, _⟩ := h
    rfl
  obtain ⟨sc, ns, rfl, hS, h63, hPt, q⟩ := h
  have hr1 : Room 1 _ := hr.mono (by decide)
  have hr2 : Room 2 _ := hr.mono (by decide)
  have hr4 : Room 4 _ := hr.mono (by decide)
  have hr6 : Room 6 _ := hr.mono (by decide)
  have hr7 : Room 7 _ := hr.mono (by decide)
  have hr58 : Room 58 _ := hr.mono (by decide)
  refine ⟨_, pss_cons (ps_set (i := 1) scLaw.nd rfl (Or.inl rfl) (pe_call G1 hr1 (by rfl) m1 k1 b1 .nil pass0 (pa_cons (pv 0) pa_nil)))
    (pss_cons (ps_set (i := 2) scLaw.nd rfl (Or.inl rfl) (pe_call G2 hr2 (by rfl) m2 k2 b2 .nil pass0 (pa_cons (pv 1) pa_nil)))
    (pss_cons (ps_set (i := 3) scLaw.nd rfl (Or.inl rfl) (pe_call G4 hr6 (by rfl) m4 k4 b4 .nil pass0 (pa_cons (pv 1) (pa_cons (pv 2)
      (pa_cons (pe_slice sl_list (pe_lst (pa_cons pe_str (pa_cons pe_str (pa_cons pe_str pa_nil)))) po_none (po_some (pe_op op_add pe_int (pe_call G3 hr1 (by rfl) m3 k3 b3 .nil pass0 (pa_cons (pv 1) (pa_cons pe_int pa_nil))))))
      (pa_cons (pe_slice sl_list (pe_lst (pa_cons pe_str (pa_cons pe_str pa_nil))) po_none (po_some (pe_call G3 hr1 (by rfl) m3 k3 b3 .nil pass0 (pa_cons (pv 1) (pa_cons pe_int pa_nil))))) (pa_cons pe_int pa_nil)))))))
    (C8.pss_cut (ps_set (i := 4) scLaw.nd rfl (Or.inl rfl) (pe_call G3 hr1 (by rfl) m3 k3 b3 .nil pass0 (pa_cons (pv 1) (pa_cons pe_int pa_nil))))
    (C8.pss_cut (ps_if (pt_cmpR op_eq (pv 4) pe_int (nomark _)) (pss_one (ps_set (i := 3) scLaw.nd rfl (Or.inl rfl) (pe_tup (pa_cons pe_str (pa_cons (pe_tup (pa_cons pe_str (pa_cons pe_str (pa_cons pe_str pa_nil)))) (pa_cons (pv 3) pa_nil)))))) pss_nil)
    (C8.pss_cut (ps_if (pt_cmpR op_eq (pv 4) pe_int (nomark _)) (pss_one (ps_set (i := 3) scLaw.nd rfl (Or.inl rfl) (pe_tup (pa_cons pe_str (pa_cons pe_str (pa_cons (pe_tup (pa_cons pe_str (pa_cons pe_int (pa_cons pe_str (pa_cons pe_str pa_nil))))) pa_nil)))))) pss_nil)
    (C8.pss_cut (ps_if (pt_cmpR op_eq (pv 4) pe_int (nomark _))
      (pss_cons (ps_for PassesOwn.never rfl (pi_range1 (by rfl) mr (pa_cons (pe_op op_add pe_int (pe_call G3 hr1 (by rfl) m3 k3 b3 .nil pass0 (pa_cons (pv 1) (pa_cons pe_int pa_nil)))) pa_nil)) (pg_name (i := 5) scLaw.nd rfl (Or.inl rfl))
        (pss_one (ps_set (i := 3) scLaw.nd rfl (Or.inl rfl) (pe_tup (pa_cons pe_str (pa_cons (pv 3) (pa_cons (pe_tup (pa_cons pe_str (pa_cons (pe_op op_add_str pe_str (pe_callTy call_str_int (by rfl) mst (by decide +kernel) (pa_cons (pv 5) pa_nil))) pa_nil))) pa_nil)))))))
      (pss_one (ps_set (i := 3) scLaw.nd rfl (Or.inl rfl) (pe_tup (pa_cons pe_str (pa_cons pe_str (pa_cons (pv 3) pa_nil))))))) pss_nil)
    (C8.pss_cut (ps_if (pt_cmpR op_eq (pv 4) pe_int (nomark _))
      (pss_one (ps_for PassesOwn.never rfl (pi_range1 (by rfl) mr (pa_cons (pe_op op_add pe_int (pe_call G3 hr1 (by rfl) m3 k3 b3 .nil pass0 (pa_cons (pv 1) (pa_cons pe_int pa_nil)))) pa_nil)) (pg_name (i := 5) scLaw.nd rfl (Or.inl rfl))
        (pss_one (ps_set (i := 3) scLaw.nd rfl (Or.inl rfl) (pe_tup (pa_cons pe_str (pa_cons (pv 3) pa_nil))))))) pss_nil)
    (pss_cons (ps_if (pt_not (pt_val (pe_call G5 hr6 (by rfl) m5 k5 b5 .nil pass0 (pa_cons (pe_lst (pa_cons (pe_call G6 hr4 (by rfl) m6 k6 b6 .nil pass0 (pa_cons (pv 3) pa_nil)) (pa_cons (pe_call G7 hr4 (by rfl) m7 k7 b7 .nil pass0 (pa_cons (pv 3) pa_nil)) pa_nil)))
        (pa_cons (pe_lst (pa_cons (pe_callB cr_sortedS (by rfl) mso (by decide +kernel) (pa_cons (pe_call G8 hr58 (by rfl) m8 k8 b8 .nil pass0 (pa_cons (pv 3) pa_nil)) pa_nil)) (pa_cons (pe_call G9 hr58 (by rfl) m9 k9 b9 .nil pass0 (pa_cons (pv 3) pa_nil)) pa_nil))) pa_nil))))) pss_never pss_nil)
    (C8.pss_cut (ps_set (i := 6) scLaw.nd rfl (Or.inl rfl) (pe_and (pe_call G10 hr (by rfl) m10 k10 b10 .nil pass0 (pa_cons (pv 2) (pa_cons (pv 3) pa_nil))) (pe_one (pe_cmpR op_le (pe_call G9 hr58 (by rfl) m9 k9 b9 .nil pass0 (pa_cons (pv 3) pa_nil)) pe_int (nomark _)))))
    (C8.pss_cut (ps_set (i := 7) scLaw.nd rfl (Or.inl rfl) (pe_and (pv 6) (pe_one (pe_cmpR (op_eqD hr.units) (pe_call G8 hr58 (by rfl) m8 k8 b8 .nil pass0 (pa_cons (pv 3) pa_nil)) (pe_lst pa_nil) (nomark _)))))
    (pss_cons (ps_if (pt_cmpR op_ne (pe_call G11 hr7 (by rfl) m11 k11 b11 .nil pass0 (pa_cons (pv 2) (pa_cons (pv 3) (pa_cons pe_bl pa_nil)))) (pe_ifExp (pt_val (pv 6)) pe_str pe_str) (nomark _)) pss_never pss_nil)
    (pss_one (ps_ret (pe_cmpR op_eq (pe_call G11 hr7 (by rfl) m11 k11 b11 .nil pass0 (pa_cons (pv 2) (pa_cons (pv 3) (pa_cons pe_bl pa_nil)))) (pe_ifExp (pt_val (pv 7)) pe_str pe_str) (nomark _))))))))))))))), ?_⟩
  refine ⟨_, rfl, sc, ns, rfl, hS, h63, fun H1 tp g1 ht hT1 => ?_⟩
  have hPt1 : H1 Pt = some (.tbl #[]) := g1 _ _ hPt
  refine ⟨_, rfl, tp, rfl, hT1, fun H2 k two ls c2 hT2 hK2 => ?_⟩
  have hPt2 : H2 Pt = some (.tbl #[]) := c2 _ _ (tblNe hT1 hPt1) hPt1
  refine ⟨_, rfl, _, rfl, (by show 3 ≤ sizeLine; exact small (by decide)), fun l0 hl0 => ?_⟩
  have g3 := same_new (o := .lst [.str "x", .str "y", .str "u"]) hl0
  have hT3 := hT2.same g3
  have hK3 := hK2.same g3
  have hPt3 := g3 _ _ hPt2
  have e3 : (upd H2 l0 (.lst [.str "x", .str "y", .str "u"])) l0 = some (.lst [.str "x", .str "y", .str "u"]) := upd_same
  generalize upd H2 l0 (.lst [.str "x", .str "y", .str "u"]) = H3 at *
  refine ⟨_, rfl, tp, 3, rfl, hT3, by decide, by decide, fun H4 z c4 hT4 z0 z3 => ?_⟩
  obtain ⟨xs, ex, hx0, hx3, hxp⟩ := cut3 z0 z3
  refine ⟨_, _, rfl, rfl, _, rfl, l0, _, rfl, SqL.of (c4 _ _ (hT3.neL e3) e3), fun p hp => ?_⟩
  rw [ex]
  have hK4 := hK3.but hT3 c4
  have hPt4 := c4 _ _ (tblNe hT3 hPt3) hPt3
  have g5 := same_new (o := .lst (xs.map V.str)) hp
  have e5 : (upd H4 p (.lst (xs.map V.str))) p = some (.lst (xs.map V.str)) := upd_same
  have hT5 := hT4.same g5
  have hK5 := hK4.same g5
  have hPt5 := g5 _ _ hPt4
  generalize upd H4 p (.lst (xs.map V.str)) = H5 at *
  refine ⟨(by show 2 ≤ sizeLine; exact small (by decide)), fun l1 hl1 => ?_⟩
  have g6 := same_new (o := .lst [.str "X", .str "Y2"]) hl1
  have hT6 := hT5.same g6
  have e6 : (upd H5 l1 (.lst [.str "X", .str "Y2"])) l1 = some (.lst [.str "X", .str "Y2"]) := upd_same
  have e56 := g6 _ _ e5
  have hK6 := hK5.same g6
  have hPt6 := g6 _ _ hPt5
  generalize upd H5 l1 (.lst [.str "X", .str "Y2"]) = H6 at *
  refine ⟨_, rfl, tp, 3, rfl, hT6, by decide, by decide, fun H7 z' c7 hT7 z0' z3' => ?_⟩
  obtain ⟨ys, ey, hy3, hyp⟩ := cut2 z0' z3'
  refine ⟨_, rfl, l1, _, rfl, SqL.of (c7 _ _ (hT6.neL e6) e6), fun p2 hp2 => ?_⟩
  rw [ey]
  have hK7 := hK6.but hT6 c7
  have hPt7 := c7 _ _ (tblNe hT6 hPt6) hPt6
  have e57 := c7 _ _ (hT6.neL e56) e56
  have g8 := same_new (o := .lst (ys.map V.str)) hp2
  refine ⟨tp, k, p, p2, 3, two, ls, xs, ys, rfl, by decide, hT7.same g8, hK7.same g8, g8 _ _ e57, upd_same, hxp, hyp, hx0, by omega, by omega, fun H9 a t c9 hT9 r9 o9 so9 n9 m9 => ?_⟩
  have hPt8 := g8 _ _ hPt7
  have hPt9 := c9 _ _ (tblNe (hT7.same g8) hPt8) hPt8
  have hK9 := (hK7.same g8).but (hT7.same g8) c9
  have n9' : num t ≤ 15 := n9
  have m9' : nn t ≤ 16 := m9
  have L9 : LWS tp k Pt two ls a t H9 := ⟨hT9, hK9, r9, o9, so9, hPt9⟩
  clear n9 m9 hPt8
  refine ⟨fun σ' H' => ∃ ch : Int, σ' = [some (.ref sc), some (.ref tp), some (.ref k), some (.ref a), some (.int ch), none, none, none] ∧ 0 ≤ ch ∧ LWS tp k Pt two ls a t H', ?_, ?_⟩
  · exact ⟨_, rfl, tp, 9, rfl, L9.tape, by decide, by decide, fun H10 ch c10 hT10 c0 c9' => ⟨ch, rfl, c0, L9.but c10 hT10⟩⟩
  rintro σ' H10 ⟨ch, rfl, c0, L10⟩
  -- 0
  refine ⟨fun σ' H' => ∃ (y5 : Option V) (a : Addr) (t : Fm), σ' = [some (.ref sc), some (.ref tp), some (.ref k), some (.ref a), some (.int ch), y5, none, none] ∧ LWS tp k Pt two ls a t H' ∧ num t ≤ 56 ∧ nn t ≤ 40 ∧ (1 ≤ ch → num t ≤ 15 ∧ nn t ≤ 16), ?_, ?_⟩
  · refine ⟨_, rfl, rfl, _, rfl, ?_⟩
    by_cases h0 : ch = 0
    · rw [decide_eq_true (congrArg V.int h0)]
      refine iteT' ⟨(by show 3 ≤ sizeLine; exact small (by decide)), fun p1 hp1 => ?_⟩
      have g1 := same_new (o := .tup [.str "label", .str "q", .str "x"]) hp1
      have L11 := L10.same g1
      have e1 : (upd H10 p1 (.tup [.str "label", .str "q", .str "x"])) p1 = some (.tup [.str "label", .str "q", .str "x"]) := upd_same
      generalize upd H10 p1 (.tup [.str "label", .str "q", .str "x"]) = H11 at *
      refine ⟨_, rfl, (by show 3 ≤ sizeLine; exact small (by decide)), fun p2 hp2 => ?_⟩
      refine ⟨_, p2, .bin [.inr "or"] (.leaf [.inr "label", .inr "q", .inr "x"]) t, rfl, L11.new hp2 (.bin upd_same (.leaf (same_new hp2 _ _ e1)) (L11.rep.same (same_new hp2))) ⟨⟨"or", rfl, by decide +kernel⟩, .inl ⟨"q", "x", rfl⟩, L11.ok⟩ ⟨kok_ns (ns := []) (by decide +kernel) (fun x hx => by simp at hx), kok_ns (ns := ["q", "x"]) (by decide +kernel) (by decide +kernel), L11.sok⟩, ?_, ?_, fun z => absurd z (by omega)⟩
      · rw [num_eq]
        simp only [kids, List.map_cons, List.map_nil, List.sum_cons, List.sum_nil, num, parts, List.length_singleton]
        have : (parts t).length ≤ 15 := n9'
        omega
      · have e : nn (Fm.leaf [.inr "label", .inr "q", .inr "x"]) = 1 := by decide +kernel
        show nn (Fm.leaf [.inr "label", .inr "q", .inr "x"]) + nn t ≤ 40
        omega
    · rw [decide_eq_false fun z => h0 (by injection z)]
      exact iteF' ⟨_, a, t, rfl, L10, by omega, by omega, fun _ => ⟨n9', m9'⟩⟩
  rintro σ' H20 ⟨y5, a2, t2, rfl, L20, n20, m20, s20⟩
  -- 1
  refine ⟨fun σ' H' => ∃ (y5 : Option V) (a : Addr) (t : Fm), σ' = [some (.ref sc), some (.ref tp), some (.ref k), some (.ref a), some (.int ch), y5, none, none] ∧ LWS tp k Pt two ls a t H' ∧ num t ≤ 56 ∧ nn t ≤ 40 ∧ (2 ≤ ch → num t ≤ 15 ∧ nn t ≤ 16), ?_, ?_⟩
  · refine ⟨_, rfl, rfl, _, rfl, ?_⟩
    by_cases h0 : ch = 1
    · rw [decide_eq_true (congrArg V.int h0)]
      refine iteT' ⟨(by show 4 ≤ sizeLine; exact small (by decide)), fun p1 hp1 => ?_⟩
      have g1 := same_new (o := .tup [.str "child", .int 1, .str "y", .str "x"]) hp1
      have L11 := L20.same g1
      have e1 : (upd H20 p1 (.tup [.str "child", .int 1, .str "y", .str "x"])) p1 = some (.tup [.str "child", .int 1, .str "y", .str "x"]) := upd_same
      generalize upd H20 p1 (.tup [.str "child", .int 1, .str "y", .str "x"]) = H11 at *
      refine ⟨(by show 3 ≤ sizeLine; exact small (by decide)), fun p2 hp2 => ?_⟩
      refine ⟨_, p2, .un [.inr "some", .inr "y"] (.leaf [.inr "child", .inl ((1 : Nat) : Int), .inr "y", .inr "x"]), rfl, L11.new hp2 (.un upd_same (.leaf (same_new hp2 _ _ e1))) ⟨.inr ⟨"some", "y", rfl, by decide +kernel⟩, .inr (.inl ⟨1, "y", "x", rfl⟩)⟩ ⟨kok_ns (ns := ["y"]) (by decide +kernel) (by decide +kernel), ?_⟩, ?_, ?_, fun z => absurd z (by omega)⟩
      · intro x hx
        simp only [List.mem_cons, List.not_mem_nil, or_false, Sum.inr.injEq, reduceCtorEq, false_or] at hx
        rcases hx with rfl | rfl | rfl <;> decide +kernel
      · decide +kernel
      · decide +kernel
    · rw [decide_eq_false fun z => h0 (by injection z)]
      exact iteF' ⟨_, a2, t2, rfl, L20, n20, m20, fun z => s20 (by omega)⟩
  rintro σ' H30 ⟨y5', a3, t3, rfl, L30, n30, m30, s30⟩
  -- 2
  refine ⟨fun σ' H' => ∃ (y5 : Option V) (a : Addr) (t : Fm), σ' = [some (.ref sc), some (.ref tp), some (.ref k), some (.ref a), some (.int ch), y5, none, none] ∧ LWS tp k Pt two ls a t H' ∧ num t ≤ 56 ∧ nn t ≤ 40 ∧ (3 ≤ ch → num t ≤ 15 ∧ nn t ≤ 16), ?_, ?_⟩
  · refine ⟨_, rfl, rfl, _, rfl, ?_⟩
    by_cases h0 : ch = 2
    · rw [decide_eq_true (congrArg V.int h0)]
      obtain ⟨n15, m16⟩ := s30 (by omega)
      refine iteT' ⟨_, rfl, tp, 2, rfl, L30.tape, by decide, by decide, fun H31 z c31 hT31 z0 z2 => ?_⟩
      refine ⟨_, _, rfl, rfl, _, rfl, by omega, by omega, ?_⟩
      refine for_range (lo := 0) (n := ((6 : Int) + z).toNat) (fun i σ' H' => ∃ (y5 : Option V) (a : Addr) (t : Fm), σ' = [some (.ref sc), some (.ref tp), some (.ref k), some (.ref a), some (.int ch), y5, none, none] ∧ LWS tp k Pt two ls a t H' ∧ num t ≤ 15 + 2 * i ∧ nn t ≤ 16 + i) ⟨_, a3, t3, rfl, L30.but c31 hT31, n15, m16⟩ (fun i σ' H' hi pv => ?_) fun σ' H' pv => ?_
      · obtain ⟨y, a, t, rfl, L, n1, m1⟩ := pv
        have hi8 : i < 8 := by omega
        obtain ⟨v1, v2⟩ := v_ok i hi8
        have vl : (Str.ofString "v").length + (Str.ofString (toString ((0 : Int) + (i : Int)))).length ≤ sizeLine := by
          have : (Str.ofString "v").length = 1 := by decide +kernel
          exact small (by omega)
        refine ⟨_, rfl, _, rfl, _, rfl, log8 i hi8, _, _, rfl, rfl, vl, (by show 2 ≤ sizeLine; exact small (by decide)), fun p1 hp1 => ?_⟩
        generalize hnm : (Str.ofString "v") ++ (Str.ofString (toString ((0 : Int) + (i : Int)))) = nm at *
        have g1 := same_new (o := .tup [.str "top", .str nm]) hp1
        have L11 := L.same g1
        have e1 : (upd H' p1 (.tup [.str "top", .str nm])) p1 = some (.tup [.str "top", .str nm]) := upd_same
        refine ⟨(by show 3 ≤ sizeLine; exact small (by decide)), fun p2 hp2 => ?_⟩
        refine ⟨_, p2, .bin [.inr "and"] t (.leaf [.inr "top", .inr nm]), rfl, L11.new hp2 (.bin upd_same (L11.rep.same (same_new hp2)) (.leaf (same_new hp2 _ _ e1))) ⟨⟨"and", rfl, by decide +kernel⟩, L.ok, at_ns (w := "top") (ns := [nm]) (by decide +kernel) (Nat.le_succ 1)⟩ ⟨kok_ns (ns := []) (by decide +kernel) (fun x hx => by simp at hx), L.sok, kok_ns (ns := [nm]) (by decide +kernel) (fun x hx => by rw [List.mem_singleton.mp hx]; exact v2)⟩, ?_, ?_⟩
        · rw [num_eq]
          simp only [kids, List.map_cons, List.map_nil, List.sum_cons, List.sum_nil]
          have : num (Fm.leaf [.inr "top", .inr nm]) = 1 := rfl
          omega
        · have e : nn (Fm.leaf [.inr "top", .inr nm]) = 1 := rfl
          show nn t + nn (Fm.leaf [.inr "top", .inr nm]) ≤ _
          omega
      · obtain ⟨y, a, t, rfl, L, n1, m1⟩ := pv
        refine ⟨_, rfl, (by show 3 ≤ sizeLine; exact small (by decide)), fun p2 hp2 => ?_⟩
        refine ⟨_, p2, .un [.inr "some", .inr "v0"] t, rfl, L.new hp2 (.un upd_same (L.rep.same (same_new hp2))) ⟨.inr ⟨"some", "v0", rfl, by decide +kernel⟩, L.ok⟩ ⟨kok_ns (ns := ["v0"]) (by decide +kernel) (by decide +kernel), L.sok⟩, ?_, ?_, fun z => absurd z (by omega)⟩
        · rw [num_eq]
          simp only [kids, List.map_cons, List.map_nil, List.sum_cons, List.sum_nil]
          omega
        · show nn t ≤ 40
          omega
    · rw [decide_eq_false fun z => h0 (by injection z)]
      exact iteF' ⟨_, a3, t3, rfl, L30, n30, m30, fun z => s30 (by omega)⟩
  rintro σ' H40 ⟨y5', a4, t4, rfl, L40, n40, m40, s40⟩
  -- 3
  refine ⟨fun σ' H' => ∃ (y5 : Option V) (a : Addr) (t : Fm), σ' = [some (.ref sc), some (.ref tp), some (.ref k), some (.ref a), some (.int ch), y5, none, none] ∧ LWS tp k Pt two ls a t H' ∧ num t ≤ 56 ∧ nn t ≤ 40, ?_, ?_⟩
  · refine ⟨_, rfl, rfl, _, rfl, ?_⟩
    by_cases h0 : ch = 3
    · rw [decide_eq_true (congrArg V.int h0)]
      obtain ⟨n15, m16⟩ := s40 (by omega)
      refine iteT' ⟨_, rfl, tp, 8, rfl, L40.tape, by decide, by decide, fun H31 z c31 hT31 z0 z2 => ?_⟩
      refine ⟨_, _, rfl, rfl, _, rfl, by omega, by omega, ?_⟩
      refine for_range (lo := 0) (n := ((34 : Int) + z).toNat) (fun i σ' H' => ∃ (y5 : Option V) (a : Addr) (t : Fm), σ' = [some (.ref sc), some (.ref tp), some (.ref k), some (.ref a), some (.int ch), y5, none, none] ∧ LWS tp k Pt two ls a t H' ∧ num t ≤ 15 + i ∧ nn t ≤ 16) ⟨_, a4, t4, rfl, L40.but c31 hT31, n15, m16⟩ (fun i σ' H' hi pv => ?_) fun σ' H' pv => ?_
      · obtain ⟨y, a, t, rfl, L, n1, m1⟩ := pv
        refine ⟨_, rfl, (by show 2 ≤ sizeLine; exact small (by decide)), fun p2 hp2 => ?_⟩
        refine ⟨_, p2, .un [.inr "not"] t, rfl, L.new hp2 (.un upd_same (L.rep.same (same_new hp2))) ⟨.inl rfl, L.ok⟩ ⟨kok_ns (ns := []) (by decide +kernel) (fun x hx => by simp at hx), L.sok⟩, ?_, m1⟩
        rw [num_eq]
        simp only [kids, List.map_cons, List.map_nil, List.sum_cons, List.sum_nil]
        omega
      · obtain ⟨y, a, t, rfl, L, n1, m1⟩ := pv
        exact ⟨_, a, t, rfl, L, by omega, by omega⟩
    · rw [decide_eq_false fun z => h0 (by injection z)]
      exact iteF' ⟨_, a4, t4, rfl, L40, n40, m40⟩
  rintro σ' H50 ⟨y5'', a5, t5, rfl, L50, n50, m50⟩
  have hdep : dep t5 ≤ 56 := Nat.le_trans (dep_num t5) n50
  have tb50 : Tabs [(Pt, lamQ)] H50 := fun p hp => by
    rw [List.mem_singleton.mp hp]
    exact TabS.nil L50.tbl
  have ho := L50.ok
  have hs := L50.sok
  have r50 := L50.rep
  have hk50 := L50.kind
  clear L9 L10 L20 L30 L40 hT1 hT2 hT3 hT4 hT5 hT6 hT7 hT9
  refine ⟨_, rfl, a5, t5, rfl, r50, ho, by omega, by omega, fun v51 H51 g51 a51 => ?_⟩
  obtain ⟨p51, L51, rfl, e51, fr⟩ := a51
  refine ⟨_, rfl, a5, t5, rfl, r50.same g51, ho, by omega, tb50.ext g51, fun H52 x52 tb52 => ?_⟩
  have x02 := (ExtN.of g51).trans x52
  have e512 : H52 p51 = some (.lst (L51.map V.str)) := x52 _ _ e51 (fun _ z => by cases z)
  refine ⟨(by show 2 ≤ sizeLine; exact small (by decide)), fun A1 hA1 => ?_⟩
  have g3' := same_new (o := .lst [.ref p51, .int (dep t5 : Nat)]) hA1
  have eA1 : (upd H52 A1 (.lst [.ref p51, .int (dep t5 : Nat)])) A1 = some (.lst [.ref p51, .int (dep t5 : Nat)]) := upd_same
  have x03 := x02.trans (ExtN.of g3')
  have tb53 := tb52.ext g3'
  have e513 := g3' _ _ e512
  generalize upd H52 A1 (.lst [.ref p51, .int (dep t5 : Nat)]) = H53 at *
  refine ⟨_, rfl, a5, t5, rfl, r50.keepT (ExtN.keepT x03), ho, hs, by omega, hdep, by omega, fun H54 p54 L54 g54 e54 lf => ?_⟩
  have hl64 : L54.length < 64 := by
    have := lf.len
    have := fv_le t5
    omega
  refine ⟨p54, L54, rfl, SqL.of e54, hl64, fun ys p55 perm srt hp55 => ?_⟩
  have hys : L51 = ys := fr.uniq (ys := Fv t5) ⟨sortedS_pw srt, perm.nodup_iff.mpr lf.n, fun x => perm.mem_iff.trans (lf.m x)⟩ fun _ => Iff.rfl
  subst hys
  have g55 := same_new (o := .lst (L51.map V.str)) hp55
  have e55 : (upd H54 p55 (.lst (L51.map V.str))) p55 = some (.lst (L51.map V.str)) := upd_same
  generalize upd H54 p55 (.lst (L51.map V.str)) = H55 at *
  have g35 := g54.trans g55
  have x05 := x03.trans (ExtN.of g35)
  refine ⟨_, rfl, a5, t5, rfl, r50.keepT (ExtN.keepT x05), ho, by omega, fun H56 g56 => ?_⟩
  refine ⟨(by show 2 ≤ sizeLine; exact small (by decide)), fun A2 hA2 => ?_⟩
  have g57 := same_new (o := .lst [.ref p55, .int (dep t5 : Nat)]) hA2
  have eA2 : (upd H56 A2 (.lst [.ref p55, .int (dep t5 : Nat)])) A2 = some (.lst [.ref p55, .int (dep t5 : Nat)]) := upd_same
  have g67 := g56.trans g57
  have g37 := g35.trans g67
  have x07 := x05.trans (ExtN.of g67)
  have tb57 := tb53.ext g37
  generalize upd H56 A2 (.lst [.ref p55, .int (dep t5 : Nat)]) = H57 at *
  have hl51 : L51.length ≤ 63 := by have := perm.length_eq; omega
  refine ⟨_, _, rfl, .lst (SqL.of (g37 _ _ eA1)) (SqL.of eA2) rfl (by show 2 ≤ 1000; decide) (fun i x y e1 e2 => ?_), true, rfl, (iteNT ?_ : if (!true) = true then _ else _)⟩
  · match i, e1, e2 with
    | 0, e1, e2 =>
      obtain rfl : V.ref p51 = x := Option.some.inj e1
      obtain rfl : V.ref p55 = y := Option.some.inj e2
      refine .lst (SqL.of (g37 _ _ e513)) (SqL.of (g67 _ _ e55)) rfl (by rw [List.length_map]; omega) fun j x y ex ey => ?_
      rw [ex] at ey
      obtain rfl := Option.some.inj ey
      obtain ⟨c, hc, rfl⟩ := str_at ex
      exact .str _ _
    | 1, e1, e2 =>
      obtain rfl : V.int (dep t5 : Nat) = x := Option.some.inj e1
      obtain rfl : V.int (dep t5 : Nat) = y := Option.some.inj e2
      exact .int _ _
    | i + 2, e1, e2 => simp at e1
  have r57 := r50.keepT (ExtN.keepT x07)
  have hk57 := hk50.keepT (ExtN.keepT x07)
  clear eA1 eA2 e513 e512 e51 e54 e55 g37 g35 g67 x07 x05 x03 x02 g55 g54 g56 g57 g3' x52 g51 tb50 tb52 tb53 r50 hk50 L50
  -- right
  refine ⟨fun σ' H' => ∃ r : Bool, σ' = [some (.ref sc), some (.ref tp), some (.ref k), some (.ref a5), some (.int ch), y5'', some (.bl r), none] ∧ KindAt H' k two ls ∧ Rep H' a5 t5 ∧ Tabs [(Pt, lamQ)] H' ∧ (r = true ↔ GoodF two ls t5), ?_, ?_⟩
  · refine ⟨_, rfl, _, rfl, k, a5, two, ls, t5, rfl, hk57, r57, ho, hs, by omega, hdep, by omega, fun H58 b g58 hb => ?_⟩
    have gf : GoodF two ls t5 ↔ (b = true ∧ dep t5 ≤ 40) := by
      rw [hb]
      exact ⟨fun z => ⟨fun s m => ⟨z.2.1 s m, z.2.2 s m⟩, z.1⟩, fun z => ⟨z.2, fun s m => (z.1 s m).1, fun s m => (z.1 s m).2⟩⟩
    refine ⟨b, rfl, ?_⟩
    cases b with
    | false => exact ⟨false, rfl, hk57.same g58, r57.same g58, tb57.ext g58, ⟨(fun z => nomatch z), fun z => (gf.mp z).1⟩⟩
    | true =>
      refine ⟨_, rfl, a5, t5, rfl, r57.same g58, ho, by omega, fun H59 g59 => ?_⟩
      have gg := g58.trans g59
      refine ⟨_, _, rfl, rfl, decide (((dep t5 : Nat) : Int) ≤ 40), rfl, hk57.same gg, r57.same gg, tb57.ext gg, ?_⟩
      rw [decide_eq_true_iff, gf]
      exact ⟨fun z => ⟨rfl, by omega⟩, fun z => by omega⟩
  rintro σ' H60 ⟨r, rfl, hk60, r60, tb60, hr60⟩
  -- closed
  refine ⟨fun σ' H' => ∃ c : Bool, σ' = [some (.ref sc), some (.ref tp), some (.ref k), some (.ref a5), some (.int ch), y5'', some (.bl r), some (.bl c)] ∧ KindAt H' k two ls ∧ Rep H' a5 t5 ∧ Tabs [(Pt, lamQ)] H' ∧ (c = true ↔ GoodF two ls t5 ∧ Fv t5 = []), ?_, ?_⟩
  · refine ⟨_, rfl, r, rfl, ?_⟩
    cases r with
    | false => exact ⟨false, rfl, hk60, r60, tb60, ⟨(fun z => nomatch z), fun z => hr60.mpr z.1⟩⟩
    | true =>
      refine ⟨_, rfl, a5, t5, rfl, r60, ho, hs, by omega, hdep, by omega, fun H61 p61 L61 g61 e61 lf61 => ?_⟩
      refine ⟨Nat.zero_le _, fun l62 hl62 => ?_⟩
      have g62 := same_new (o := .lst []) hl62
      have gg := g61.trans g62
      refine ⟨.list (L61.map .str), .list [], .lst (SqL.of (g62 _ _ e61)) (strs_dall L61), .lst (SqL.of upd_same) .nil, strs_shaped (fun x h => fv_ok hs x ((lf61.m x).mp h)), rfl, ?_⟩
      rw [eqv_nil]
      refine ⟨decide (L61 = []), rfl, hk60.same gg, r60.same gg, tb60.ext gg, ?_⟩
      rw [decide_eq_true_iff]
      constructor
      · intro z
        refine ⟨hr60.mp rfl, List.eq_nil_iff_forall_not_mem.mpr fun x hx => ?_⟩
        have := (lf61.m x).mpr hx
        rw [z] at this
        simp at this
      · intro z
        refine List.eq_nil_iff_forall_not_mem.mpr fun x hx => ?_
        have := (lf61.m x).mp hx
        rw [z.2] at this
        simp at this
  rintro σ' H70 ⟨c, rfl, hk70, r70, tb70, hc70⟩
  refine ⟨_, rfl, _, rfl, k, a5, two, false, ls, t5, rfl, hk70, r70, ho, by omega, by omega, tb70, fun H71 b x71 tb71 hb => ?_⟩
  have hbr : b = r := by
    have z : b = true ↔ r = true := hb.trans (⟨fun z => hr60.mpr z.1, fun z => ⟨hr60.mp z, fun y => nomatch y⟩⟩)
    cases b <;> cases r <;> simp_all
  subst hbr
  have r71 := r70.keepT (ExtN.keepT x71)
  have hk71 := hk70.keepT (ExtN.keepT x71)
  have last : ∀ (Dx : VK), (∀ H', Dx (.bl true) H') → (tOp rEq (tCall (spTold Pt) [] E0 (tCons (tVar 2) (tCons (tVar 3) (tCons (tC (.bl true)) tNil)))) (tIf (tB (tVar 7)) (tC (.str "yes")) (tC (.str "no")))) [some (.ref sc), some (.ref tp), some (.ref k), some (.ref a5), some (.int ch), y5'', some (.bl b), some (.bl c)] H71 Dx := by
    intro Dx hD
    refine ⟨_, rfl, _, rfl, k, a5, two, true, ls, t5, rfl, hk71, r71, ho, by omega, by omega, tb71, fun H72 b2 x72 tb72 hb2 => ?_⟩
    have hbc : b2 = c := by
      have z : b2 = true ↔ c = true := hb2.trans (⟨fun z => hc70.mpr ⟨z.1, z.2 rfl⟩, fun z => ⟨(hc70.mp z).1, fun _ => (hc70.mp z).2⟩⟩)
      cases b2 <;> cases c <;> simp_all
    subst hbc
    refine ⟨_, rfl, b2, rfl, ?_⟩
    cases b2 with
    | true =>
      refine iteT' ⟨rfl, ?_⟩
      rw [show decide (V.str (if true = true then "yes" else "no") = V.str "yes") = true from decide_eq_true rfl]
      exact hD _
    | false =>
      refine iteF' ⟨rfl, ?_⟩
      rw [show decide (V.str (if false = true then "yes" else "no") = V.str "no") = true from decide_eq_true rfl]
      exact hD _
  refine ⟨_, rfl, b, rfl, ?_⟩
  cases b with
  | true =>
    refine iteT' ⟨rfl, _, rfl, ?_⟩
    rw [show decide (V.str (if true = true then "yes" else "no") = V.str "yes") = true from decide_eq_true rfl]
    exact iteNT (last _ fun H' => q H')
  | false =>
    refine iteF' ⟨rfl, _, rfl, ?_⟩
    rw [show decide (V.str (if false = true then "yes" else "no") = V.str "no") = true from decide_eq_true rfl]
    exact iteNT (last _ fun H' => q H')
end
end K03

set_option Elab.async false
set_option linter.all false
set_option maxRecDepth 100000
set_option maxHeartbeats 4000000
namespace K03
open PySem PySem.Spec PyProof.Rows L2 XS XCS XL LamX XM
/-- a def of the top -/
theorem fun_of {K : PySem.W.Frag} {x qual : Str} {st : Stmt} {f c : Addr} {fd : FuncData} (F : FunC K x qual st f fd c) : Fun K x qual st f fd := by
  obtain ⟨⟨oc, od, kV, doc, pm, an, ct, osl, e, l, q⟩, k⟩ := F
  exact ⟨⟨oc, od, kV, doc, pm, an, .ref c, ct, osl, e, l, q⟩, k⟩
section
variable {P : Program} {w : World} {K : PySem.W.Frag} {mg : Str → Option Value} {base : Heap}
theorem all_mat {f g a : Addr} {fd gd ad : FuncData} {m : Nat} (F : Fun K "_law_matrix" "_law_matrix" sMat f fd) (G : FnOk P w K mg base CX0 m g gd ["tape", "many"] spTake) (bG : Binds K gd ["tape", "many"] []) (kG : PySem.W.keepIn K (.ref g) = true) (mG : mg "_law_take" = some (.ref g))
    (GA : FnOk P w K mg base CX0 m a ad ["tape", "kind", "singles", "sets"] spAtom) (bA : Binds K ad ["tape", "kind", "singles", "sets"] []) (kA : PySem.W.keepIn K (.ref a) = true) (mA : mg "_law_atom" = some (.ref a)) (bS : Binds K fd ["tape", "kind", "singles", "sets", "deep"] []) (mS : mg "_law_matrix" = some (.ref f)) :
    ∀ n : Nat, FnOk P w K mg base CX0 (m + n) f fd ["tape", "kind", "singles", "sets", "deep"] (spMat n)
  | 0 => no_mat
  | n + 1 => ok_mat F G bG kG mG GA bA kA mA (all_mat F G bG kG mG GA bA kA mA bS mS n) bS mS
theorem all_ldepth {f g : Addr} {fd gd : FuncData} {m : Nat} (F : Fun K "_law_depth" "_law_depth" sLDepth f fd) (G : FnOk P w K mg base CX0 m g gd ["formula"] spLInner) (bG : Binds K gd ["formula"] []) (kG : PySem.W.keepIn K (.ref g) = true) (mG : mg "_law_inner" = some (.ref g)) (bS : Binds K fd ["formula"] []) (mS : mg "_law_depth" = some (.ref f)) (mx : mg "max" = none) :
    ∀ n : Nat, FnOk P w K mg base CX0 (m + n) f fd ["formula"] (spLDepth n)
  | 0 => no_ldepth
  | n + 1 => ok_ldepth F G bG kG mG (all_ldepth F G bG kG mG bS mS mx n) bS mS mx
theorem all_lfree {f g : Addr} {fd gd : FuncData} {m : Nat} (F : Fun K "_law_free" "_law_free" sLFree f fd) (G : FnOk P w K mg base CX0 m g gd ["formula"] spLInner) (bG : Binds K gd ["formula"] []) (kG : PySem.W.keepIn K (.ref g) = true) (mG : mg "_law_inner" = some (.ref g)) (bS : Binds K fd ["formula"] []) (mS : mg "_law_free" = some (.ref f)) (mr : mg "range" = none) (ml : mg "len" = none) :
    ∀ n : Nat, FnOk P w K mg base CX0 (m + n) f fd ["formula"] (spLFree n)
  | 0 => no_lfree
  | n + 1 => ok_lfree F G bG kG mG (all_lfree F G bG kG mG bS mS mr ml n) bS mS mr ml
theorem all_fits {f g l : Addr} {fd gd ld : FuncData} {m : Nat} (F : Fun K "_law_fits" "_law_fits" sFits f fd) (G : FnOk P w K mg base CX0 m g gd ["formula"] spLInner) (bG : Binds K gd ["formula"] []) (kG : PySem.W.keepIn K (.ref g) = true) (mG : mg "_law_inner" = some (.ref g))
    (GL : FnOk P w K mg base CX0 m l ld ["formula"] (spLFree 57)) (bL : Binds K ld ["formula"] []) (kL : PySem.W.keepIn K (.ref l) = true) (mL : mg "_law_free" = some (.ref l)) (bS : Binds K fd ["kind", "formula"] []) (mS : mg "_law_fits" = some (.ref f)) (ma : mg "all" = none) (ml : mg "len" = none) :
    ∀ n : Nat, FnOk P w K mg base CX0 (m + n) f fd ["kind", "formula"] (spFits n)
  | 0 => no_fits
  | n + 1 => ok_fits F G bG kG mG GL bL kL mL (all_fits F G bG kG mG GL bL kL mL bS mS ma ml n) bS mS ma ml
end
theorem wall_all {p : Str → Prop} (h : p "true" ∧ p "label" ∧ p "child" ∧ p "below" ∧ p "same" ∧ p "top" ∧ p "in" ∧ p "inside" ∧ p "not" ∧ p "some" ∧ p "all" ∧ p "someset" ∧ p "allset" ∧ p "and" ∧ p "or") : ∀ x ∈ WALL, p x := by
  intro x hx
  simp only [WALL, List.mem_cons, List.not_mem_nil, or_false] at hx
  obtain ⟨h1, h2, h3, h4, h5, h6, h7, h8, h9, h10, h11, h12, h13, h14, h15⟩ := h
  rcases hx with rfl | rfl | rfl | rfl | rfl | rfl | rfl | rfl | rfl | rfl | rfl | rfl | rfl | rfl | rfl <;> assumption
theorem opens_at : opens "true" = none ∧ opens "label" = none ∧ opens "child" = none ∧ opens "below" = none ∧ opens "same" = none ∧ opens "top" = none ∧ opens "in" = none ∧ opens "inside" = none ∧ opens "not" = some 1 ∧ opens "some" = some 2 ∧ opens "all" = some 2 ∧ opens "someset" = some 2 ∧ opens "allset" = some 2 ∧ opens "and" = some 1 ∧ opens "or" = some 1 := by decide +kernel
theorem kat_none {K : PySem.W.Frag} {w : World} {a : Addr} {x : Str} {es : Array DictEntry} {n : Nat} (l : K.lookup a = some ⟨.type "dict", none, .dict es n, #[]⟩) (k : PySem.W.KeysLit w.params es.toList) (s : (a == sysModules) = false) (h : PySem.W.nsIn K a x = some none) (e : opens x = none) : KAt K w a x ((opens x).map fun n => V.int (n : Nat)) := by
  rw [e]
  exact ⟨es, n, none, l, k, s, h, True.intro⟩
theorem kat_some {K : PySem.W.Frag} {w : World} {a : Addr} {x : Str} {es : Array DictEntry} {n m : Nat} {t : Tok} (l : K.lookup a = some ⟨.type "dict", none, .dict es n, #[]⟩) (k : PySem.W.KeysLit w.params es.toList) (s : (a == sysModules) = false) (h : PySem.W.nsIn K a x = some (some (.int (m : Nat) t))) (e : opens x = some m) : KAt K w a x ((opens x).map fun n => V.int (n : Nat)) := by
  rw [e]
  exact ⟨es, n, _, l, k, s, h, ⟨t, rfl⟩⟩
theorem all_mk {l : PySem.W.OpenLaw} {w : World} {K : PySem.W.Frag} {h : Heap} {mg : Str → Option Value} {fa cI cS Pt cL aQ aI : Addr} (X : K.In h) (G : h.Ns mainGlobals mg) (hfa : mg "law" = some (.ref fa))
    {f0 f1 f2 f3 f4 f5 f6 f7 f8 f9 f10 f11 f12 f13 f14 f15 f16 f17 f18 f19 f20 f21 f22 f23 f24 f25 f26 f27 f28 : Addr} {od0 od1 od2 od3 od4 od5 od6 od7 od8 od9 od10 od11 od12 od13 od14 od15 od16 od17 od18 od19 od20 od21 od22 od23 od24 od25 od26 od27 od28 an0 an1 an2 an3 an4 an5 an6 an7 an8 an9 an10 an11 an12 an13 an14 an15 an16 an17 an18 an19 an20 an21 an22 an23 an24 an25 an26 an27 an28 : Option Addr}
    {sl0 sl1 sl2 sl3 sl4 sl5 sl6 sl7 sl8 sl9 sl10 sl11 sl12 sl13 sl14 sl15 sl16 sl17 sl18 sl19 sl20 sl21 sl22 sl23 sl24 sl25 sl26 sl27 sl28 : Array (Option Value)}
    {oc0 kV0 dc0 pm0 ct0 cd0 oc1 kV1 dc1 pm1 ct1 cd1 oc2 kV2 dc2 pm2 ct2 cd2 oc3 kV3 dc3 pm3 ct3 cd3 oc4 kV4 dc4 pm4 ct4 cd4 oc5 kV5 dc5 pm5 ct5 cd5 oc6 kV6 dc6 pm6 ct6 cd6 oc7 kV7 dc7 pm7 ct7 oc8 kV8 dc8 pm8 ct8 cd8 oc9 kV9 dc9 pm9 ct9 cd9 oc10 kV10 dc10 pm10 ct10 cd10 oc11 kV11 dc11 pm11 ct11 cd11 oc12 kV12 dc12 pm12 ct12 cd12 oc13 kV13 dc13 pm13 ct13 cd13 oc14 kV14 dc14 pm14 ct14 cd14 oc15 kV15 dc15 pm15 ct15 cd15 oc16 kV16 dc16 pm16 ct16 cd16 oc17 kV17 dc17 pm17 ct17 cd17 oc18 kV18 dc18 pm18 ct18 cd18 oc19 kV19 dc19 pm19 ct19 cd19 oc20 kV20 dc20 pm20 ct20 cd20 oc21 kV21 dc21 pm21 ct21 cd21 oc22 kV22 dc22 pm22 ct22 cd22 oc23 kV23 dc23 pm23 ct23 cd23 oc24 kV24 dc24 pm24 ct24 cd24 oc25 kV25 dc25 pm25 ct25 cd25 oc26 kV26 dc26 pm26 ct26 cd26 oc27 kV27 dc27 pm27 ct27 cd27 oc28 kV28 dc28 pm28 ct28 cd28 : Value} {tM tF tD t_not t_and t_or t_some t_all t_someset t_allset : Tok} {oQ : Obj} {itsQ : Array Value} {nQ nI : Nat} {es : Array DictEntry}
    (a0 : PySem.W.nsIn K mainGlobals "is_whole" = some (some (.ref f0))) (l0 : K.lookup f0 = some ⟨oc0, od0, .func (PySem.W.fnOf "is_whole" "is_whole" (defArgs sWhole) (defBody sWhole) (defScope sWhole) .none kV0 dc0 pm0 an0 cd0 ct0), sl0⟩) (c0 : PySem.W.codeIn K cd0 "is_whole" = true) (k0 : PySem.W.keepIn K (.ref f0) = true)
    (a1 : PySem.W.nsIn K mainGlobals "is_kind" = some (some (.ref f1))) (l1 : K.lookup f1 = some ⟨oc1, od1, .func (PySem.W.fnOf "is_kind" "is_kind" (defArgs sIsKind) (defBody sIsKind) (defScope sIsKind) .none kV1 dc1 pm1 an1 cd1 ct1), sl1⟩) (c1 : PySem.W.codeIn K cd1 "is_kind" = true) (k1 : PySem.W.keepIn K (.ref f1) = true)
    (a2 : PySem.W.nsIn K mainGlobals "_is_letter" = some (some (.ref f2))) (l2 : K.lookup f2 = some ⟨oc2, od2, .func (PySem.W.fnOf "_is_letter" "_is_letter" (defArgs sLetter) (defBody sLetter) (defScope sLetter) .none kV2 dc2 pm2 an2 cd2 ct2), sl2⟩) (c2 : PySem.W.codeIn K cd2 "_is_letter" = true) (k2 : PySem.W.keepIn K (.ref f2) = true)
    (a3 : PySem.W.nsIn K mainGlobals "check_kind" = some (some (.ref f3))) (l3 : K.lookup f3 = some ⟨oc3, od3, .func (PySem.W.fnOf "check_kind" "check_kind" (defArgs sCheck) (defBody sCheck) (defScope sCheck) .none kV3 dc3 pm3 an3 cd3 ct3), sl3⟩) (c3 : PySem.W.codeIn K cd3 "check_kind" = true) (k3 : PySem.W.keepIn K (.ref f3) = true)
    (a4 : PySem.W.nsIn K mainGlobals "inner" = some (some (.ref f4))) (l4 : K.lookup f4 = some ⟨oc4, od4, .func (PySem.W.fnOf "inner" "inner" (defArgs sInner) (defBody sInner) (defScope sInner) .none kV4 dc4 pm4 an4 cd4 ct4), sl4⟩) (c4 : PySem.W.codeIn K cd4 "inner" = true) (k4 : PySem.W.keepIn K (.ref f4) = true)
    (a5 : PySem.W.nsIn K mainGlobals "all_parts" = some (some (.ref f5))) (l5 : K.lookup f5 = some ⟨oc5, od5, .func (PySem.W.fnOf "all_parts" "all_parts" (defArgs sAllP) (defBody sAllP) (defScope sAllP) .none kV5 dc5 pm5 an5 cd5 ct5), sl5⟩) (c5 : PySem.W.codeIn K cd5 "all_parts" = true) (k5 : PySem.W.keepIn K (.ref f5) = true)
    (a6 : PySem.W.nsIn K mainGlobals "built" = some (some (.ref f6))) (l6 : K.lookup f6 = some ⟨oc6, od6, .func (PySem.W.fnOf "built" "built" (defArgs sBuilt) (defBody sBuilt) (defScope sBuilt) .none kV6 dc6 pm6 an6 cd6 ct6), sl6⟩) (c6 : PySem.W.codeIn K cd6 "built" = true) (k6 : PySem.W.keepIn K (.ref f6) = true)
    (a7 : PySem.W.nsIn K mainGlobals "depth" = some (some (.ref f7))) (l7 : K.lookup f7 = some ⟨oc7, od7, .func (PySem.W.fnOf "depth" "depth" (defArgs sDep) (defBody sDep) (defScope sDep) .none kV7 dc7 pm7 an7 (.ref cL) ct7), sl7⟩) (c7 : PySem.W.codeIn K (.ref cL) "depth" = true) (k7 : PySem.W.keepIn K (.ref f7) = true)
    (a8 : PySem.W.nsIn K mainGlobals "free_variables" = some (some (.ref f8))) (l8 : K.lookup f8 = some ⟨oc8, od8, .func (PySem.W.fnOf "free_variables" "free_variables" (defArgs sFree) (defBody sFree) (defScope sFree) .none kV8 dc8 pm8 an8 cd8 ct8), sl8⟩) (c8 : PySem.W.codeIn K cd8 "free_variables" = true) (k8 : PySem.W.keepIn K (.ref f8) = true)
    (a9 : PySem.W.nsIn K mainGlobals "_free_above" = some (some (.ref f9))) (l9 : K.lookup f9 = some ⟨oc9, od9, .func (PySem.W.fnOf "_free_above" "_free_above" (defArgs sFA) (defBody sFA) (defScope sFA) .none kV9 dc9 pm9 an9 cd9 ct9), sl9⟩) (c9 : PySem.W.codeIn K cd9 "_free_above" = true) (k9 : PySem.W.keepIn K (.ref f9) = true)
    (a10 : PySem.W.nsIn K mainGlobals "check_formula" = some (some (.ref f10))) (l10 : K.lookup f10 = some ⟨oc10, od10, .func (PySem.W.fnOf "check_formula" "check_formula" (defArgs sCF) (defBody sCF) (defScope sCF) .none kV10 dc10 pm10 an10 cd10 ct10), sl10⟩) (c10 : PySem.W.codeIn K cd10 "check_formula" = true) (k10 : PySem.W.keepIn K (.ref f10) = true)
    (a11 : PySem.W.nsIn K mainGlobals "_check_words" = some (some (.ref f11))) (l11 : K.lookup f11 = some ⟨oc11, od11, .func (PySem.W.fnOf "_check_words" "_check_words" (defArgs sWords) (defBody sWords) (defScope sWords) .none kV11 dc11 pm11 an11 cd11 ct11), sl11⟩) (c11 : PySem.W.codeIn K cd11 "_check_words" = true) (k11 : PySem.W.keepIn K (.ref f11) = true)
    (a12 : PySem.W.nsIn K mainGlobals "_few_above" = some (some (.ref f12))) (l12 : K.lookup f12 = some ⟨oc12, od12, .func (PySem.W.fnOf "_few_above" "_few_above" (defArgs sFew) (defBody sFew) (defScope sFew) .none kV12 dc12 pm12 an12 cd12 ct12), sl12⟩) (c12 : PySem.W.codeIn K cd12 "_few_above" = true) (k12 : PySem.W.keepIn K (.ref f12) = true)
    (a13 : PySem.W.nsIn K mainGlobals "check_sentence" = some (some (.ref f13))) (l13 : K.lookup f13 = some ⟨oc13, od13, .func (PySem.W.fnOf "check_sentence" "check_sentence" (defArgs sCS) (defBody sCS) (defScope sCS) .none kV13 dc13 pm13 an13 cd13 ct13), sl13⟩) (c13 : PySem.W.codeIn K cd13 "check_sentence" = true) (k13 : PySem.W.keepIn K (.ref f13) = true)
    (a14 : PySem.W.nsIn K mainGlobals "_law_tape" = some (some (.ref f14))) (l14 : K.lookup f14 = some ⟨oc14, od14, .func (PySem.W.fnOf "_law_tape" "_law_tape" (defArgs sTape) (defBody sTape) (defScope sTape) .none kV14 dc14 pm14 an14 cd14 ct14), sl14⟩) (c14 : PySem.W.codeIn K cd14 "_law_tape" = true) (k14 : PySem.W.keepIn K (.ref f14) = true)
    (a15 : PySem.W.nsIn K mainGlobals "_law_take" = some (some (.ref f15))) (l15 : K.lookup f15 = some ⟨oc15, od15, .func (PySem.W.fnOf "_law_take" "_law_take" (defArgs sTake) (defBody sTake) (defScope sTake) .none kV15 dc15 pm15 an15 cd15 ct15), sl15⟩) (c15 : PySem.W.codeIn K cd15 "_law_take" = true) (k15 : PySem.W.keepIn K (.ref f15) = true)
    (a16 : PySem.W.nsIn K mainGlobals "_law_is_integer" = some (some (.ref f16))) (l16 : K.lookup f16 = some ⟨oc16, od16, .func (PySem.W.fnOf "_law_is_integer" "_law_is_integer" (defArgs sLInt) (defBody sLInt) (defScope sLInt) .none kV16 dc16 pm16 an16 cd16 ct16), sl16⟩) (c16 : PySem.W.codeIn K cd16 "_law_is_integer" = true) (k16 : PySem.W.keepIn K (.ref f16) = true)
    (a17 : PySem.W.nsIn K mainGlobals "_law_same_items" = some (some (.ref f17))) (l17 : K.lookup f17 = some ⟨oc17, od17, .func (PySem.W.fnOf "_law_same_items" "_law_same_items" (defArgs sSameItems) (defBody sSameItems) (defScope sSameItems) .none kV17 dc17 pm17 an17 cd17 ct17), sl17⟩) (c17 : PySem.W.codeIn K cd17 "_law_same_items" = true) (k17 : PySem.W.keepIn K (.ref f17) = true)
    (a18 : PySem.W.nsIn K mainGlobals "_law_same" = some (some (.ref f18))) (l18 : K.lookup f18 = some ⟨oc18, od18, .func (PySem.W.fnOf "_law_same" "_law_same" (defArgs sSame) (defBody sSame) (defScope sSame) .none kV18 dc18 pm18 an18 cd18 ct18), sl18⟩) (c18 : PySem.W.codeIn K cd18 "_law_same" = true) (k18 : PySem.W.keepIn K (.ref f18) = true)
    (a19 : PySem.W.nsIn K mainGlobals "_law_kind" = some (some (.ref f19))) (l19 : K.lookup f19 = some ⟨oc19, od19, .func (PySem.W.fnOf "_law_kind" "_law_kind" (defArgs sLKind) (defBody sLKind) (defScope sLKind) .none kV19 dc19 pm19 an19 cd19 ct19), sl19⟩) (c19 : PySem.W.codeIn K cd19 "_law_kind" = true) (k19 : PySem.W.keepIn K (.ref f19) = true)
    (a20 : PySem.W.nsIn K mainGlobals "_law_atom" = some (some (.ref f20))) (l20 : K.lookup f20 = some ⟨oc20, od20, .func (PySem.W.fnOf "_law_atom" "_law_atom" (defArgs sAtom) (defBody sAtom) (defScope sAtom) .none kV20 dc20 pm20 an20 cd20 ct20), sl20⟩) (c20 : PySem.W.codeIn K cd20 "_law_atom" = true) (k20 : PySem.W.keepIn K (.ref f20) = true)
    (a21 : PySem.W.nsIn K mainGlobals "_law_matrix" = some (some (.ref f21))) (l21 : K.lookup f21 = some ⟨oc21, od21, .func (PySem.W.fnOf "_law_matrix" "_law_matrix" (defArgs sMat) (defBody sMat) (defScope sMat) .none kV21 dc21 pm21 an21 cd21 ct21), sl21⟩) (c21 : PySem.W.codeIn K cd21 "_law_matrix" = true) (k21 : PySem.W.keepIn K (.ref f21) = true)
    (a22 : PySem.W.nsIn K mainGlobals "_law_inner" = some (some (.ref f22))) (l22 : K.lookup f22 = some ⟨oc22, od22, .func (PySem.W.fnOf "_law_inner" "_law_inner" (defArgs sLInner) (defBody sLInner) (defScope sLInner) .none kV22 dc22 pm22 an22 cd22 ct22), sl22⟩) (c22 : PySem.W.codeIn K cd22 "_law_inner" = true) (k22 : PySem.W.keepIn K (.ref f22) = true)
    (a23 : PySem.W.nsIn K mainGlobals "_law_free" = some (some (.ref f23))) (l23 : K.lookup f23 = some ⟨oc23, od23, .func (PySem.W.fnOf "_law_free" "_law_free" (defArgs sLFree) (defBody sLFree) (defScope sLFree) .none kV23 dc23 pm23 an23 cd23 ct23), sl23⟩) (c23 : PySem.W.codeIn K cd23 "_law_free" = true) (k23 : PySem.W.keepIn K (.ref f23) = true)
    (a24 : PySem.W.nsIn K mainGlobals "_law_depth" = some (some (.ref f24))) (l24 : K.lookup f24 = some ⟨oc24, od24, .func (PySem.W.fnOf "_law_depth" "_law_depth" (defArgs sLDepth) (defBody sLDepth) (defScope sLDepth) .none kV24 dc24 pm24 an24 cd24 ct24), sl24⟩) (c24 : PySem.W.codeIn K cd24 "_law_depth" = true) (k24 : PySem.W.keepIn K (.ref f24) = true)
    (a25 : PySem.W.nsIn K mainGlobals "_law_fits" = some (some (.ref f25))) (l25 : K.lookup f25 = some ⟨oc25, od25, .func (PySem.W.fnOf "_law_fits" "_law_fits" (defArgs sFits) (defBody sFits) (defScope sFits) .none kV25 dc25 pm25 an25 cd25 ct25), sl25⟩) (c25 : PySem.W.codeIn K cd25 "_law_fits" = true) (k25 : PySem.W.keepIn K (.ref f25) = true)
    (a26 : PySem.W.nsIn K mainGlobals "_law_told" = some (some (.ref f26))) (l26 : K.lookup f26 = some ⟨oc26, od26, .func (PySem.W.fnOf "_law_told" "_law_told" (defArgs sTold) (defBody sTold) (defScope sTold) .none kV26 dc26 pm26 an26 cd26 ct26), sl26⟩) (c26 : PySem.W.codeIn K cd26 "_law_told" = true) (k26 : PySem.W.keepIn K (.ref f26) = true)
    (a27 : PySem.W.nsIn K mainGlobals "law" = some (some (.ref f27))) (l27 : K.lookup f27 = some ⟨oc27, od27, .func (PySem.W.fnOf "law" "law" (defArgs sLaw) (defBody sLaw) (defScope sLaw) .none kV27 dc27 pm27 an27 cd27 ct27), sl27⟩) (c27 : PySem.W.codeIn K cd27 "law" = true) (k27 : PySem.W.keepIn K (.ref f27) = true)
    (a28 : PySem.W.nsIn K mainGlobals "outer" = some (some (.ref f28))) (l28 : K.lookup f28 = some ⟨oc28, od28, .func (PySem.W.fnOf "outer" "outer" (defArgs sOuter) (defBody sOuter) (defScope sOuter) .none kV28 dc28 pm28 an28 cd28 ct28), sl28⟩) (c28 : PySem.W.codeIn K cd28 "outer" = true) (k28 : PySem.W.keepIn K (.ref f28) = true)
    (z_abs : PySem.W.nsIn K mainGlobals "abs" = some none)
    (z_int : PySem.W.nsIn K mainGlobals "int" = some none)
    (z_len : PySem.W.nsIn K mainGlobals "len" = some none)
    (z_isinstance : PySem.W.nsIn K mainGlobals "isinstance" = some none)
    (z_bool : PySem.W.nsIn K mainGlobals "bool" = some none)
    (z_str : PySem.W.nsIn K mainGlobals "str" = some none)
    (z_tuple : PySem.W.nsIn K mainGlobals "tuple" = some none)
    (z_list : PySem.W.nsIn K mainGlobals "list" = some none)
    (z_range : PySem.W.nsIn K mainGlobals "range" = some none)
    (z_all : PySem.W.nsIn K mainGlobals "all" = some none)
    (z_sorted : PySem.W.nsIn K mainGlobals "sorted" = some none)
    (z_set : PySem.W.nsIn K mainGlobals "set" = some none)
    (z_reversed : PySem.W.nsIn K mainGlobals "reversed" = some none)
    (z_max : PySem.W.nsIn K mainGlobals "max" = some none)
    (nL : PySem.W.nsIn K mainGlobals "MOST_LABELS" = some (some (.int 3 tM))) (nF : PySem.W.nsIn K mainGlobals "MOST_FREE" = some (some (.int 6 tF))) (nD : PySem.W.nsIn K mainGlobals "MOST_DEEP" = some (some (.int 40 tD)))
    (gQ : PySem.W.nsIn K mainGlobals "QUANTIFIERS" = some (some (.ref aQ))) (lQ : K.lookup aQ = some oQ) (cQ : oQ.cls = .type "tuple") (dQ : oQ.data = .seq itsQ nQ) (zQ : itsQ.size ≤ sizeLine) (vQ : Vals [V.str "some", .str "all", .str "someset", .str "allset"] itsQ.toList)
    (gI : PySem.W.nsIn K mainGlobals "INSIDE" = some (some (.ref aI))) (lI : K.lookup aI = some ⟨.type "dict", none, .dict es nI, #[]⟩) (hI : PySem.W.KeysLit w.params es.toList) (sI : (aI == sysModules) = false)
    (w_true : PySem.W.nsIn K aI "true" = some none)
    (w_label : PySem.W.nsIn K aI "label" = some none)
    (w_child : PySem.W.nsIn K aI "child" = some none)
    (w_below : PySem.W.nsIn K aI "below" = some none)
    (w_same : PySem.W.nsIn K aI "same" = some none)
    (w_top : PySem.W.nsIn K aI "top" = some none)
    (w_in : PySem.W.nsIn K aI "in" = some none)
    (w_inside : PySem.W.nsIn K aI "inside" = some none)
    (w_not : PySem.W.nsIn K aI "not" = some (some (.int ((1 : Nat) : Int) t_not)))
    (w_some : PySem.W.nsIn K aI "some" = some (some (.int ((2 : Nat) : Int) t_some)))
    (w_all : PySem.W.nsIn K aI "all" = some (some (.int ((2 : Nat) : Int) t_all)))
    (w_someset : PySem.W.nsIn K aI "someset" = some (some (.int ((2 : Nat) : Int) t_someset)))
    (w_allset : PySem.W.nsIn K aI "allset" = some (some (.int ((2 : Nat) : Int) t_allset)))
    (w_and : PySem.W.nsIn K aI "and" = some (some (.int ((1 : Nat) : Int) t_and)))
    (w_or : PySem.W.nsIn K aI "or" = some (some (.int ((1 : Nat) : Int) t_or)))
    (aCI : PySem.W.nsIn K mainGlobals "InvalidSentence" = some (some (.ref cI))) (xCI : PySem.W.excIn K cI [.type "ValueError", .type "Exception", .type "BaseException", .type "object"] "ValueError.__new__" = true) (kCI : PySem.W.keepIn K (.ref cI) = true)
    (bCI : PySem.W.subIn K (.ref cI) (.type "BaseException") = some true) (tCI : PySem.W.typeIn K (.ref cI) = some (.type "type")) (eCI : PySem.W.exmOne K (.ref cI) (.ref cI) = some true)
    (aS : PySem.W.nsIn K mainGlobals "SayError" = some (some (.ref cS))) (kS : PySem.W.kitOne K (.ref cI) (.ref cS) = some true)
    (e1 : PySem.W.findIn K (.ref cI) "__getattribute__" = some (some (.builtin "BaseException.__getattribute__"))) (e2 : PySem.W.findIn K (.ref cI) "__getattr__" = some none) (e4 : PySem.W.hasDictIn K cI = true)
    (e5 : PySem.W.findIn K (.ref cI) "__class__" = some (some (.builtin "object.__class__"))) (e6 : PySem.W.specialIn K (.builtin "object.__class__") "__get__" = some (some (.builtin "getset_descriptor.__get__"))) (e7 : PySem.W.takesIn K (.builtin "object.__class__") = some true) (e8 : PySem.W.mroIn K cI (.type "object") = some true)
    (hP : h.get? Pt = some { cls := .none, data := .fields #[] }) (nP : K.lookup Pt = none) (hd : PySem.W.codeHdIn K cL Pt = true) :
    LawAtS l w K CX0 116 63 "script" mg fa h := by
  have TI : ExcT K mg "InvalidSentence" cI := ⟨xCI, PySem.W.mg_of X G aCI, kCI, bCI, tCI, eCI⟩
  have TC : ExcC K cI := ⟨e1, e2, bCI, e4, e5, e6, e7, e8⟩
  have m0 := PySem.W.mg_of X G a0
  have m1 := PySem.W.mg_of X G a1
  have m2 := PySem.W.mg_of X G a2
  have m3 := PySem.W.mg_of X G a3
  have m4 := PySem.W.mg_of X G a4
  have m5 := PySem.W.mg_of X G a5
  have m6 := PySem.W.mg_of X G a6
  have m7 := PySem.W.mg_of X G a7
  have m8 := PySem.W.mg_of X G a8
  have m9 := PySem.W.mg_of X G a9
  have m10 := PySem.W.mg_of X G a10
  have m11 := PySem.W.mg_of X G a11
  have m12 := PySem.W.mg_of X G a12
  have m13 := PySem.W.mg_of X G a13
  have m14 := PySem.W.mg_of X G a14
  have m15 := PySem.W.mg_of X G a15
  have m16 := PySem.W.mg_of X G a16
  have m17 := PySem.W.mg_of X G a17
  have m18 := PySem.W.mg_of X G a18
  have m19 := PySem.W.mg_of X G a19
  have m20 := PySem.W.mg_of X G a20
  have m21 := PySem.W.mg_of X G a21
  have m22 := PySem.W.mg_of X G a22
  have m23 := PySem.W.mg_of X G a23
  have m24 := PySem.W.mg_of X G a24
  have m25 := PySem.W.mg_of X G a25
  have m26 := PySem.W.mg_of X G a26
  have m27 := PySem.W.mg_of X G a27
  have m28 := PySem.W.mg_of X G a28
  have y_abs := PySem.W.mg_none_of X G z_abs
  have y_int := PySem.W.mg_none_of X G z_int
  have y_len := PySem.W.mg_none_of X G z_len
  have y_isinstance := PySem.W.mg_none_of X G z_isinstance
  have y_bool := PySem.W.mg_none_of X G z_bool
  have y_str := PySem.W.mg_none_of X G z_str
  have y_tuple := PySem.W.mg_none_of X G z_tuple
  have y_list := PySem.W.mg_none_of X G z_list
  have y_range := PySem.W.mg_none_of X G z_range
  have y_all := PySem.W.mg_none_of X G z_all
  have y_sorted := PySem.W.mg_none_of X G z_sorted
  have y_set := PySem.W.mg_none_of X G z_set
  have y_reversed := PySem.W.mg_none_of X G z_reversed
  have y_max := PySem.W.mg_none_of X G z_max
  have yL := PySem.W.mg_of X G nL
  have yF := PySem.W.mg_of X G nF
  have yD := PySem.W.mg_of X G nD
  have yS := PySem.W.mg_of X G aS
  have yQ := PySem.W.mg_of X G gQ
  have yI := PySem.W.mg_of X G gI
  have KQ : KTup K aQ (WQ.map V.str) := ⟨oQ, itsQ, nQ, lQ, cQ, dQ, zQ, vQ⟩
  obtain ⟨o1, o2, o3, o4, o5, o6, o7, o8, o9, o10, o11, o12, o13, o14, o15⟩ := opens_at
  have TI2 : InsT K w mg aI := ⟨yI, wall_all ⟨kat_none lI hI sI w_true o1, kat_none lI hI sI w_label o2, kat_none lI hI sI w_child o3, kat_none lI hI sI w_below o4, kat_none lI hI sI w_same o5, kat_none lI hI sI w_top o6, kat_none lI hI sI w_in o7, kat_none lI hI sI w_inside o8, kat_some lI hI sI w_not o9, kat_some lI hI sI w_some o10, kat_some lI hI sI w_all o11, kat_some lI hI sI w_someset o12, kat_some lI hI sI w_allset o13, kat_some lI hI sI w_and o14, kat_some lI hI sI w_or o15⟩⟩
  have e := hfa.symm.trans m27
  cases e
  have F0 := fun_mk (st := sWhole) l0 c0 k0
  have F1 := fun_mk (st := sIsKind) l1 c1 k1
  have F2 := fun_mk (st := sLetter) l2 c2 k2
  have F3 := fun_mk (st := sCheck) l3 c3 k3
  have F4 := fun_mk (st := sInner) l4 c4 k4
  have F5 := fun_mk (st := sAllP) l5 c5 k5
  have F6 := fun_mk (st := sBuilt) l6 c6 k6
  have FC : FunC K "depth" "depth" sDep f7 _ cL := ⟨⟨_, _, _, _, _, _, _, _, rfl, l7, c7⟩, k7⟩
  have F7 := fun_of FC
  have F8 := fun_mk (st := sFree) l8 c8 k8
  have F9 := fun_mk (st := sFA) l9 c9 k9
  have F10 := fun_mk (st := sCF) l10 c10 k10
  have F11 := fun_mk (st := sWords) l11 c11 k11
  have F12 := fun_mk (st := sFew) l12 c12 k12
  have F13 := fun_mk (st := sCS) l13 c13 k13
  have F14 := fun_mk (st := sTape) l14 c14 k14
  have F15 := fun_mk (st := sTake) l15 c15 k15
  have F16 := fun_mk (st := sLInt) l16 c16 k16
  have F17 := fun_mk (st := sSameItems) l17 c17 k17
  have F18 := fun_mk (st := sSame) l18 c18 k18
  have F19 := fun_mk (st := sLKind) l19 c19 k19
  have F20 := fun_mk (st := sAtom) l20 c20 k20
  have F21 := fun_mk (st := sMat) l21 c21 k21
  have F22 := fun_mk (st := sLInner) l22 c22 k22
  have F23 := fun_mk (st := sLFree) l23 c23 k23
  have F24 := fun_mk (st := sLDepth) l24 c24 k24
  have F25 := fun_mk (st := sFits) l25 c25 k25
  have F26 := fun_mk (st := sTold) l26 c26 k26
  have F27 := fun_mk (st := sLaw) l27 c27 k27
  have F28 := fun_mk (st := sOuter) l28 c28 k28
  have b0 := F0.binds (ps := ["value"]) fun _ _ _ _ _ _ us hl => match us, hl with | [_], _ => rfl
  have b1 := F1.binds (ps := ["value"]) fun _ _ _ _ _ _ us hl => match us, hl with | [_], _ => rfl
  have b2 := F2.binds (ps := ["value"]) fun _ _ _ _ _ _ us hl => match us, hl with | [_], _ => rfl
  have b3 := F3.binds (ps := ["kind"]) fun _ _ _ _ _ _ us hl => match us, hl with | [_], _ => rfl
  have b28 := F28.binds (ps := ["whole"]) fun _ _ _ _ _ _ us hl => match us, hl with | [_], _ => rfl
  have b4 := F4.binds (ps := ["whole"]) fun _ _ _ _ _ _ us hl => match us, hl with | [_], _ => rfl
  have b5 := F5.binds (ps := ["whole"]) fun _ _ _ _ _ _ us hl => match us, hl with | [_], _ => rfl
  have b6 := F6.binds (ps := ["whole", "above"]) fun _ _ _ _ _ _ us hl => match us, hl with | [_, _], _ => rfl
  have b7 := F7.binds (ps := ["formula"]) fun _ _ _ _ _ _ us hl => match us, hl with | [_], _ => rfl
  have b8 := F8.binds (ps := ["formula"]) fun _ _ _ _ _ _ us hl => match us, hl with | [_], _ => rfl
  have b9 := F9.binds (ps := ["now", "inside"]) fun _ _ _ _ _ _ us hl => match us, hl with | [_, _], _ => rfl
  have b10 := F10.binds (ps := ["kind", "formula"]) fun _ _ _ _ _ _ us hl => match us, hl with | [_, _], _ => rfl
  have b11 := F11.binds (ps := ["kind", "now"]) fun _ _ _ _ _ _ us hl => match us, hl with | [_, _], _ => rfl
  have b12 := F12.binds (ps := ["now", "inside"]) fun _ _ _ _ _ _ us hl => match us, hl with | [_, _], _ => rfl
  have b13 := F13.binds (ps := ["kind", "formula"]) fun _ _ _ _ _ _ us hl => match us, hl with | [_, _], _ => rfl
  have b14 := F14.binds (ps := ["script"]) fun _ _ _ _ _ _ us hl => match us, hl with | [_], _ => rfl
  have b15 := F15.binds (ps := ["tape", "many"]) fun _ _ _ _ _ _ us hl => match us, hl with | [_, _], _ => rfl
  have b16 := F16.binds (ps := ["actual"]) fun _ _ _ _ _ _ us hl => match us, hl with | [_], _ => rfl
  have b17 := F17.binds (ps := ["actual", "expected"]) fun _ _ _ _ _ _ us hl => match us, hl with | [_, _], _ => rfl
  have b18 := F18.binds (ps := ["actual", "expected"]) fun _ _ _ _ _ _ us hl => match us, hl with | [_, _], _ => rfl
  have b19 := F19.binds (ps := ["tape"]) fun _ _ _ _ _ _ us hl => match us, hl with | [_], _ => rfl
  have b20 := F20.binds (ps := ["tape", "kind", "singles", "sets"]) fun _ _ _ _ _ _ us hl => match us, hl with | [_, _, _, _], _ => rfl
  have b21 := F21.binds (ps := ["tape", "kind", "singles", "sets", "deep"]) fun _ _ _ _ _ _ us hl => match us, hl with | [_, _, _, _, _], _ => rfl
  have b22 := F22.binds (ps := ["formula"]) fun _ _ _ _ _ _ us hl => match us, hl with | [_], _ => rfl
  have b23 := F23.binds (ps := ["formula"]) fun _ _ _ _ _ _ us hl => match us, hl with | [_], _ => rfl
  have b24 := F24.binds (ps := ["formula"]) fun _ _ _ _ _ _ us hl => match us, hl with | [_], _ => rfl
  have b25 := F25.binds (ps := ["kind", "formula"]) fun _ _ _ _ _ _ us hl => match us, hl with | [_, _], _ => rfl
  have b26 := F26.binds (ps := ["kind", "formula", "closed"]) fun _ _ _ _ _ _ us hl => match us, hl with | [_, _, _], _ => rfl
  refine ⟨PySem.W.fnOf "law" "law" (defArgs sLaw) (defBody sLaw) (defScope sLaw) .none kV27 dc27 pm27 an27 cd27 ct27, [(cL, Pt)], spLaw K Pt, fun p hp => ?_, fun p hp => ?_, fun p hp => ?_, fun s v => .of_eq rfl, fun H a ns hn _ hT hS => ?_, fun base _ _ hB => ?_⟩
  · rw [List.mem_singleton.mp hp]
    exact hP
  · rw [List.mem_singleton.mp hp]
    exact nP
  · rw [List.mem_singleton.mp hp]
    exact PySem.W.codeHd_of_K X hd
  · exact ⟨a, ns, rfl, hS, hn, hT (cL, Pt) (List.mem_singleton.mpr rfl), fun _ => rfl⟩
  · have TB : TabB base mg cL Pt := hB (cL, Pt) (List.mem_singleton.mpr rfl)
    have GTape := ok_tape (P := l.prog) (w := w) (base := base) (k := 0) F14 y_abs y_int
    have GTake := ok_take (P := l.prog) (w := w) (base := base) (k := 0) F15 y_len y_int
    have GInt := ok_lint (P := l.prog) (w := w) (base := base) (k := 0) F16 y_isinstance y_bool y_int
    have GSame := same_all (P := l.prog) (w := w) (base := base) F18 b18 m18 F17 b17 m17 y_len y_range y_isinstance y_bool y_int y_str y_tuple y_list GInt b16 k16 m16 3
    have GWhole := ok_whole (P := l.prog) (w := w) (base := base) (k := 0) F0 y_isinstance y_bool y_int
    have GLetter := ok_letter (P := l.prog) (w := w) (base := base) (k := 0) F2 y_isinstance y_str y_len
    have GIsKind := ok_isKind (P := l.prog) (w := w) (base := base) F1 GWhole b0 k0 m0 GLetter b2 k2 m2 y_isinstance y_tuple y_len y_all y_list y_sorted y_set yL
    have GCheck := ok_check (P := l.prog) (w := w) (base := base) F3 GIsKind b1 k1 m1
    have GInner1 := ok_inner (P := l.prog) (w := w) (base := base) (k := 0) F4 TI2 y_len
    have GInner2 := ok_inner (P := l.prog) (w := w) (base := base) (k := 1) F4 TI2 y_len
    have GOuter := ok_outer (P := l.prog) (w := w) (base := base) (k := 1) F28 TI2 y_len
    have GAllP := ok_allp (P := l.prog) (w := w) (base := base) (aI := aI) F5 GInner1 b4 k4 m4 y_list y_reversed
    have GFA1 := ok_fa (P := l.prog) (w := w) (base := base) (k := 0) F9 yQ KQ y_sorted y_set
    have GFA2 := ok_fa (P := l.prog) (w := w) (base := base) (k := 1) F9 yQ KQ y_sorted y_set
    have GFew := ok_few (P := l.prog) (w := w) (base := base) F12 TI yF GFA1 b9 k9 m9 y_len
    have GBfree := fn_quiet (ok_built (P := l.prog) (w := w) (base := base) (k := 2) (M := frM) (Stay := fun g' _ => g' = f9) (fun _ h => h) F6 (fun cdv A outer s H E hr => callR_def GFA2 hr rfl (Or.inl rfl) k9 b9 pass0) GAllP b5 k5 m5 GInner2 b4 k4 m4 GOuter b28 k28 m28 y_reversed y_len)
    have GBdep := fn_quiet (ok_built (P := l.prog) (w := w) (base := base) (k := 2) (M := dM) (Stay := StL) stL_keep F6 (fun cdv A outer s H E hr => callR_lam (P := l.prog) (k := 1) rfl hr rfl (Or.inl rfl) y_max) GAllP b5 k5 m5 GInner2 b4 k4 m4 GOuter b28 k28 m28 y_reversed y_len)
    have GBfew := ok_built (P := l.prog) (w := w) (base := base) (k := 2) (M := fewM cI) (Stay := fun g' _ => g' = f12) (fun _ h => h) F6 (fun cdv A outer s H E hr => callR_def GFew hr rfl (Or.inl rfl) k12 b12 (passes_call (takes_of rfl rfl rfl rfl) fun _ _ _ _ h => h)) GAllP b5 k5 m5 GInner2 b4 k4 m4 GOuter b28 k28 m28 y_reversed y_len
    have GFree := ok_free (P := l.prog) (w := w) (base := base) F8 GBfree b6 k6 m6 m9
    have GDep := ok_dep (P := l.prog) (w := w) (base := base) FC TB GBdep b6 k6 m6
    have GWords := ok_words (P := l.prog) (w := w) (base := base) (k := 3) F11 TI
    have GCF := ok_cf (P := l.prog) (w := w) (base := base) F10 TI yD (GCheck.mono (by decide)) b3 k3 m3 GDep b7 k7 m7 (GAllP.mono (by decide)) b5 k5 m5 GWords b11 k11 m11 (GBfew.mono (by decide)) b6 k6 m6 m12
    have GCS := ok_cs (P := l.prog) (w := w) (base := base) F13 TI GCF b10 k10 m10 (GFree.mono (by decide)) b8 k8 m8
    have GTold := ok_told (P := l.prog) (w := w) (base := base) F26 TI TC yS kS (GCF.mono (by decide)) b10 k10 m10 GCS b13 k13 m13 y_isinstance
    have GKind := ok_lkind (P := l.prog) (w := w) (base := base) F19 GTake b15 k15 m15
    have GAtom := ok_atom (P := l.prog) (w := w) (base := base) F20 GTake b15 k15 m15 y_len
    have GMat := all_mat (P := l.prog) (w := w) (base := base) F21 (GTake.mono (by decide)) b15 k15 m15 GAtom b20 k20 m20 b21 m21 4
    have GLInner := ok_linner (P := l.prog) (w := w) (base := base) (mg := mg) (k := 0) F22
    have GLDepth := all_ldepth (P := l.prog) (w := w) (base := base) F24 GLInner b22 k22 m22 b24 m24 y_max 57
    have GLFree := all_lfree (P := l.prog) (w := w) (base := base) F23 GLInner b22 k22 m22 b23 m23 y_range y_len 57
    have GFits := all_fits (P := l.prog) (w := w) (base := base) F25 (GLInner.mono (k := 1 + 57) (by decide)) b22 k22 m22 GLFree b23 k23 m23 b25 m25 y_all y_len 57
    exact ok_law F27 GTape b14 k14 m14 GKind b19 k19 m19 GTake b15 k15 m15 GMat b21 k21 m21 GSame b18 k18 m18 GFree b8 k8 m8 GDep b7 k7 m7 GLFree b23 k23 m23 GLDepth b24 k24 m24 GFits b25 k25 m25 GTold b26 k26 m26 y_range y_str y_sorted
end K03

set_option Elab.async false
open PySem PySem.W PyProof.Rows
set_option maxRecDepth 100000 in
set_option maxHeartbeats 0 in
theorem PySem.Challenge.cw_treesays_k03_variables_and_rules_holds : PySem.Challenge.rw_treesays_k03_variables_and_rules.Holds := by
  w_on; o_law; k_head; (case hw => w_witness2)
  k_fill
  refine LamX.walk_ofTs (l := PySem.Challenge.rw_treesays_k03_variables_and_rules) (n := 63) (k := 116) (x := "script") (CX := fun _ => L2.CX0) rfl (by decide) rfl ⟨rfl, by decide, by decide⟩ (fun w h Y => PySem.W.km_in_of Y) ?F (fun _ _ _ _ _ h => h)
  case F =>
    intro w mg fa h Y KX G hmg
    refine' K03.all_mk KX G hmg ?a0 ?l0 ?c0 ?k0 ?a1 ?l1 ?c1 ?k1 ?a2 ?l2 ?c2 ?k2 ?a3 ?l3 ?c3 ?k3 ?a4 ?l4 ?c4 ?k4 ?a5 ?l5 ?c5 ?k5 ?a6 ?l6 ?c6 ?k6 ?a7 ?l7 ?c7 ?k7 ?a8 ?l8 ?c8 ?k8 ?a9 ?l9 ?c9 ?k9 ?a10 ?l10 ?c10 ?k10 ?a11 ?l11 ?c11 ?k11 ?a12 ?l12 ?c12 ?k12 ?a13 ?l13 ?c13 ?k13 ?a14 ?l14 ?c14 ?k14 ?a15 ?l15 ?c15 ?k15 ?a16 ?l16 ?c16 ?k16 ?a17 ?l17 ?c17 ?k17 ?a18 ?l18 ?c18 ?k18 ?a19 ?l19 ?c19 ?k19 ?a20 ?l20 ?c20 ?k20 ?a21 ?l21 ?c21 ?k21 ?a22 ?l22 ?c22 ?k22 ?a23 ?l23 ?c23 ?k23 ?a24 ?l24 ?c24 ?k24 ?a25 ?l25 ?c25 ?k25 ?a26 ?l26 ?c26 ?k26 ?a27 ?l27 ?c27 ?k27 ?a28 ?l28 ?c28 ?k28 ?z_abs ?z_int ?z_len ?z_isinstance ?z_bool ?z_str ?z_tuple ?z_list ?z_range ?z_all ?z_sorted ?z_set ?z_reversed ?z_max ?nL ?nF ?nD ?gQ ?lQ ?cQ ?dQ ?zQ ?vQ ?gI ?lI ?hI ?sI ?w_true ?w_label ?w_child ?w_below ?w_same ?w_top ?w_in ?w_inside ?w_not ?w_some ?w_all ?w_someset ?w_allset ?w_and ?w_or ?aCI ?xCI ?kCI ?bCI ?tCI ?eCI ?aS ?kS ?e1 ?e2 ?e4 ?e5 ?e6 ?e7 ?e8 (PySem.W.km_tabs_of Y _ List.mem_cons_self) ?nP ?hd
    (case a0 => first | k_is | rfl | decide +kernel)
    (case l0 => first | k_is | rfl | decide +kernel)
    (case c0 => first | k_is | rfl | decide +kernel)
    (case k0 => first | k_is | rfl | decide +kernel)
    (case a1 => first | k_is | rfl | decide +kernel)
    (case l1 => first | k_is | rfl | decide +kernel)
    (case c1 => first | k_is | rfl | decide +kernel)
    (case k1 => first | k_is | rfl | decide +kernel)
    (case a2 => first | k_is | rfl | decide +kernel)
    (case l2 => first | k_is | rfl | decide +kernel)
    (case c2 => first | k_is | rfl | decide +kernel)
    (case k2 => first | k_is | rfl | decide +kernel)
    (case a3 => first | k_is | rfl | decide +kernel)
    (case l3 => first | k_is | rfl | decide +kernel)
    (case c3 => first | k_is | rfl | decide +kernel)
    (case k3 => first | k_is | rfl | decide +kernel)
    (case a4 => first | k_is | rfl | decide +kernel)
    (case l4 => first | k_is | rfl | decide +kernel)
    (case c4 => first | k_is | rfl | decide +kernel)
    (case k4 => first | k_is | rfl | decide +kernel)
    (case a5 => first | k_is | rfl | decide +kernel)
    (case l5 => first | k_is | rfl | decide +kernel)
    (case c5 => first | k_is | rfl | decide +kernel)
    (case k5 => first | k_is | rfl | decide +kernel)
    (case a6 => first | k_is | rfl | decide +kernel)
    (case l6 => first | k_is | rfl | decide +kernel)
    (case c6 => first | k_is | rfl | decide +kernel)
    (case k6 => first | k_is | rfl | decide +kernel)
    (case a7 => first | k_is | rfl | decide +kernel)
    (case l7 => first | k_is | rfl | decide +kernel)
    (case c7 => first | k_is | rfl | decide +kernel)
    (case k7 => first | k_is | rfl | decide +kernel)
    (case a8 => first | k_is | rfl | decide +kernel)
    (case l8 => first | k_is | rfl | decide +kernel)
    (case c8 => first | k_is | rfl | decide +kernel)
    (case k8 => first | k_is | rfl | decide +kernel)
    (case a9 => first | k_is | rfl | decide +kernel)
    (case l9 => first | k_is | rfl | decide +kernel)
    (case c9 => first | k_is | rfl | decide +kernel)
    (case k9 => first | k_is | rfl | decide +kernel)
    (case a10 => first | k_is | rfl | decide +kernel)
    (case l10 => first | k_is | rfl | decide +kernel)
    (case c10 => first | k_is | rfl | decide +kernel)
    (case k10 => first | k_is | rfl | decide +kernel)
    (case a11 => first | k_is | rfl | decide +kernel)
    (case l11 => first | k_is | rfl | decide +kernel)
    (case c11 => first | k_is | rfl | decide +kernel)
    (case k11 => first | k_is | rfl | decide +kernel)
    (case a12 => first | k_is | rfl | decide +kernel)
    (case l12 => first | k_is | rfl | decide +kernel)
    (case c12 => first | k_is | rfl | decide +kernel)
    (case k12 => first | k_is | rfl | decide +kernel)
    (case a13 => first | k_is | rfl | decide +kernel)
    (case l13 => first | k_is | rfl | decide +kernel)
    (case c13 => first | k_is | rfl | decide +kernel)
    (case k13 => first | k_is | rfl | decide +kernel)
    (case a14 => first | k_is | rfl | decide +kernel)
    (case l14 => first | k_is | rfl | decide +kernel)
    (case c14 => first | k_is | rfl | decide +kernel)
    (case k14 => first | k_is | rfl | decide +kernel)
    (case a15 => first | k_is | rfl | decide +kernel)
    (case l15 => first | k_is | rfl | decide +kernel)
    (case c15 => first | k_is | rfl | decide +kernel)
    (case k15 => first | k_is | rfl | decide +kernel)
    (case a16 => first | k_is | rfl | decide +kernel)
    (case l16 => first | k_is | rfl | decide +kernel)
    (case c16 => first | k_is | rfl | decide +kernel)
    (case k16 => first | k_is | rfl | decide +kernel)
    (case a17 => first | k_is | rfl | decide +kernel)
    (case l17 => first | k_is | rfl | decide +kernel)
    (case c17 => first | k_is | rfl | decide +kernel)
    (case k17 => first | k_is | rfl | decide +kernel)
    (case a18 => first | k_is | rfl | decide +kernel)
    (case l18 => first | k_is | rfl | decide +kernel)
    (case c18 => first | k_is | rfl | decide +kernel)
    (case k18 => first | k_is | rfl | decide +kernel)
    (case a19 => first | k_is | rfl | decide +kernel)
    (case l19 => first | k_is | rfl | decide +kernel)
    (case c19 => first | k_is | rfl | decide +kernel)
    (case k19 => first | k_is | rfl | decide +kernel)
    (case a20 => first | k_is | rfl | decide +kernel)
    (case l20 => first | k_is | rfl | decide +kernel)
    (case c20 => first | k_is | rfl | decide +kernel)
    (case k20 => first | k_is | rfl | decide +kernel)
    (case a21 => first | k_is | rfl | decide +kernel)
    (case l21 => first | k_is | rfl | decide +kernel)
    (case c21 => first | k_is | rfl | decide +kernel)
    (case k21 => first | k_is | rfl | decide +kernel)
    (case a22 => first | k_is | rfl | decide +kernel)
    (case l22 => first | k_is | rfl | decide +kernel)
    (case c22 => first | k_is | rfl | decide +kernel)
    (case k22 => first | k_is | rfl | decide +kernel)
    (case a23 => first | k_is | rfl | decide +kernel)
    (case l23 => first | k_is | rfl | decide +kernel)
    (case c23 => first | k_is | rfl | decide +kernel)
    (case k23 => first | k_is | rfl | decide +kernel)
    (case a24 => first | k_is | rfl | decide +kernel)
    (case l24 => first | k_is | rfl | decide +kernel)
    (case c24 => first | k_is | rfl | decide +kernel)
    (case k24 => first | k_is | rfl | decide +kernel)
    (case a25 => first | k_is | rfl | decide +kernel)
    (case l25 => first | k_is | rfl | decide +kernel)
    (case c25 => first | k_is | rfl | decide +kernel)
    (case k25 => first | k_is | rfl | decide +kernel)
    (case a26 => first | k_is | rfl | decide +kernel)
    (case l26 => first | k_is | rfl | decide +kernel)
    (case c26 => first | k_is | rfl | decide +kernel)
    (case k26 => first | k_is | rfl | decide +kernel)
    (case a27 => first | k_is | rfl | decide +kernel)
    (case l27 => first | k_is | rfl | decide +kernel)
    (case c27 => first | k_is | rfl | decide +kernel)
    (case k27 => first | k_is | rfl | decide +kernel)
    (case a28 => first | k_is | rfl | decide +kernel)
    (case l28 => first | k_is | rfl | decide +kernel)
    (case c28 => first | k_is | rfl | decide +kernel)
    (case k28 => first | k_is | rfl | decide +kernel)
    (case z_abs => first | k_is | rfl | decide +kernel)
    (case z_int => first | k_is | rfl | decide +kernel)
    (case z_len => first | k_is | rfl | decide +kernel)
    (case z_isinstance => first | k_is | rfl | decide +kernel)
    (case z_bool => first | k_is | rfl | decide +kernel)
    (case z_str => first | k_is | rfl | decide +kernel)
    (case z_tuple => first | k_is | rfl | decide +kernel)
    (case z_list => first | k_is | rfl | decide +kernel)
    (case z_range => first | k_is | rfl | decide +kernel)
    (case z_all => first | k_is | rfl | decide +kernel)
    (case z_sorted => first | k_is | rfl | decide +kernel)
    (case z_set => first | k_is | rfl | decide +kernel)
    (case z_reversed => first | k_is | rfl | decide +kernel)
    (case z_max => first | k_is | rfl | decide +kernel)
    (case nL => first | k_is | rfl | decide +kernel)
    (case nF => first | k_is | rfl | decide +kernel)
    (case nD => first | k_is | rfl | decide +kernel)
    (case gQ => first | k_is | rfl | decide +kernel)
    (case lQ => first | k_is | rfl | decide +kernel)
    (case cQ => first | k_is | rfl | decide +kernel)
    (case dQ => first | k_is | rfl | decide +kernel)
    (case zQ => decide)
    (case vQ => exact .cons ⟨_, rfl⟩ (.cons ⟨_, rfl⟩ (.cons ⟨_, rfl⟩ (.cons ⟨_, rfl⟩ .nil))))
    (case gI => first | k_is | rfl | decide +kernel)
    (case lI => first | k_is | rfl | decide +kernel)
    (case hI => exact ⟨⟨_, _, rfl, rfl⟩, ⟨_, _, rfl, rfl⟩, ⟨_, _, rfl, rfl⟩, ⟨_, _, rfl, rfl⟩, ⟨_, _, rfl, rfl⟩, ⟨_, _, rfl, rfl⟩, ⟨_, _, rfl, rfl⟩, ⟨_, _, rfl, rfl⟩, ⟨_, _, rfl, rfl⟩, ⟨_, _, rfl, rfl⟩, True.intro⟩)
    (case sI => first | k_is | rfl | decide +kernel)
    (case w_true => first | k_is | rfl | decide +kernel)
    (case w_label => first | k_is | rfl | decide +kernel)
    (case w_child => first | k_is | rfl | decide +kernel)
    (case w_below => first | k_is | rfl | decide +kernel)
    (case w_same => first | k_is | rfl | decide +kernel)
    (case w_top => first | k_is | rfl | decide +kernel)
    (case w_in => first | k_is | rfl | decide +kernel)
    (case w_inside => first | k_is | rfl | decide +kernel)
    (case w_not => first | k_is | rfl | decide +kernel)
    (case w_some => first | k_is | rfl | decide +kernel)
    (case w_all => first | k_is | rfl | decide +kernel)
    (case w_someset => first | k_is | rfl | decide +kernel)
    (case w_allset => first | k_is | rfl | decide +kernel)
    (case w_and => first | k_is | rfl | decide +kernel)
    (case w_or => first | k_is | rfl | decide +kernel)
    (case aCI => first | k_is | rfl | decide +kernel)
    (case xCI => first | k_exc | k_is | rfl | decide +kernel)
    (case kCI => first | k_is | rfl | decide +kernel)
    (case bCI => first | k_is | rfl | decide +kernel)
    (case tCI => first | k_is | rfl | decide +kernel)
    (case eCI => first | k_is | rfl | decide +kernel)
    (case aS => first | k_is | rfl | decide +kernel)
    (case kS => first | k_is | rfl | decide +kernel)
    (case e1 => first | k_is | rfl | decide +kernel)
    (case e2 => first | k_is | rfl | decide +kernel)
    (case e4 => first | k_is | rfl | decide +kernel)
    (case e5 => first | k_is | rfl | decide +kernel)
    (case e6 => first | k_is | rfl | decide +kernel)
    (case e7 => first | k_is | rfl | decide +kernel)
    (case e8 => first | k_is | rfl | decide +kernel)
    (case nP => first | k_is | rfl | decide +kernel)
    (case hd => first | k_is | rfl | decide +kernel)

