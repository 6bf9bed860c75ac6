import PyProof.Rows.All
import Wide.All
import OpenK.AllK
import Wide.FinOn
import HandS.Base
import HandS.Call
import HandS.List
import HandS.Ends
import HandS.Words
import HandS.Set
import HandS.SetFor
import PyProof.ListStr
import HandS.ForMost
import HandS.Rev
import PyProof.StrOps
import PyProof.FactsAll.subtypes_3
import HandS.RevTup
import PyProof.AutoSeq1
import KE.KSortTup
import HandS.SortOrd
import HandS.SortRule
import PyProof.EnumIter
import HandS.Zip
import HandS.Sort
import HandS.Codes
import HandS.IsInst
import HandS.TupAny
import HandS.Lambda
import HandS.FStr
import HandS.CallLocal
import HandS.Flow
import HandS.RevRange
import HandS.ForExc
import HandS.Star
import HandS.TryOnly
import HandS.ExcIs
import HandS.Deep
import HandS.HeadWalk
import HandS.HeadHook1
import HandS.EndTab
import PySem.Challenge.RW_treesays_k01_shapes_and_their_texts
set_option Elab.async false
set_option linter.all false
set_option maxRecDepth 100000
/-! set(t) of a tuple of texts, and sorted of such a set -/
namespace XS
open PySem PySem.Spec PyProof.Rows L2

def txtOf (e : Int × Value) : Str := match e.2 with | .str k _ => k | _ => Str.empty
def TxtE (w : World) (e : Int × Value) : Prop := ∃ k tk, e.2 = Value.str k tk ∧ e.1 = hashStr w k
structure SetX (w : World) (h : Heap) (a : Addr) (L : List Str) : Prop where
  ex : ∃ o es ep t, h.get? a = some o ∧ o.ExactSet ∧ o.data = .set es ep t ∧ (∀ e ∈ es.toList, TxtE w e) ∧ (es.toList.map txtOf).Perm L ∧ es.size < scanBound ∧ t.fits es.size = true ∧ Ris t.place.toList ∧
    (w.params.followText "set-order" = true ∨ t.led = true)
  nd : L.Nodup
section
variable {P : Program} {w : World} {h h' : Heap} {a : Addr} {L : List Str}
theorem SetX.at' (R : SetX w h a L) (k : ∀ o, h.get? a = some o → h'.get? a = some o) : SetX w h' a L := by
  obtain ⟨⟨o, es, ep, t, ho, r⟩, nd⟩ := R
  exact ⟨⟨o, es, ep, t, k o ho, r⟩, nd⟩
theorem txt_elems {l : List (Int × Value)} (g : ∀ e ∈ l, TxtE w e) : ElemsOf (PySem.strKind P w) l := fun e he => by
  obtain ⟨k, tk, e1, e2⟩ := g e he
  exact ⟨⟨k, by rw [e1]; exact strKind_is P w k tk, e2⟩, by rw [e1] <;> rfl⟩
theorem txt_is {e : Int × Value} (g : TxtE w e) (k : Str) : (PySem.strKind P w).is k e.2 = true ↔ txtOf e = k := by
  obtain ⟨k0, tk, e1, _⟩ := g
  have his : (PySem.strKind P w).is k0 e.2 = true := by rw [e1]; exact strKind_is P w k0 tk
  have ht : txtOf e = k0 := by unfold txtOf; rw [e1]
  rw [KeyKind.is_eq_decide his k, decide_eq_true_eq, ht]
  exact ⟨fun z => z.symm, fun z => z.symm⟩
end
section
variable {P : Program} {w : World} {A : Around} {E : Value → Shared → Prop} {s : Shared} {a : Addr} {L : List Str}
theorem addX_tail {g : Bool → Sem Unit} (hg : ∀ (b : Bool) (s1 : Shared) (Q' : Unit → Shared → Prop), Q' () s1 → wpAny (model P w) A (g b) Q' E s1)
    {o : Obj} {es : Array (Int × Value)} {ep : Nat} {t : SetTable} (ho : s.heap.get? a = some o) (hex : o.ExactSet) (hd : o.data = .set es ep t)
    {es1 : Array (Int × Value)} {t2 : SetTable} {L1 : List Str} (g1 : ∀ e ∈ es1.toList, TxtE w e) (p1 : (es1.toList.map txtOf).Perm L1) (n1 : L1.Nodup)
    (hb1 : es1.size < scanBound) (hf2 : t2.fits es1.size = true) (hr : Ris t2.place.toList) (hl : w.params.followText "set-order" = true ∨ t2.led = true) {dum : Bool} {R : Option Bool → Shared → Prop}
    (hR : ∀ h', Heap.SameBut a s.heap h' → SetX w h' a L1 → R (some true) { s with heap := h' }) :
    wpAny (model P w) A (do
        storeSet a es1 t2
        if (!dum && t2.tooFull) = true then do
            g (relayAll t2 es1 (SetTable.grown es1.size)).2.2
            storeSet a (relayAll t2 es1 (SetTable.grown es1.size)).1 (relayAll t2 es1 (SetTable.grown es1.size)).2.1
            pure (some true)
          else pure (some true)) R E s := by
  refine wpAny_bind (wpAny_storeSet_of ho hd ?_ (fits_of_scanBound hb1))
  have ho1 := store_at (es' := es1) (t' := t2) ho hd
  have sb1 := Heap.SameBut.update s.heap a (Obj.putSet es1 t2)
  split
  · have q1 := relayAll_perm t2 es1 (SetTable.grown es1.size)
    have q2 := relayAll_fits t2 es1 (SetTable.grown es1.size)
    have q3 := relayAll_ris t2 es1 (SetTable.grown es1.size)
    have q4 := relayAll_led t2 es1 (SetTable.grown es1.size)
    revert q1 q2 q3 q4
    generalize relayAll t2 es1 (SetTable.grown es1.size) = Z
    obtain ⟨es2, t3, gave⟩ := Z
    intro q1 q2 q3 q4
    dsimp only at q1 q2 q3 q4 ⊢
    have hsz : es2.size = es1.size := by rw [← Array.length_toList, q1.length_eq, Array.length_toList]
    have hb2 : es2.size < scanBound := by rw [hsz]; exact hb1
    refine wpAny_bind (hg _ _ _ (wpAny_bind (wpAny_storeSet_of ho1 rfl ?_ (fits_of_scanBound hb2))))
    refine wpAny_pure (hR _ (sb1.trans (Heap.SameBut.update _ a _)) ⟨⟨_, es2, _, t3, store_at (es' := es2) (t' := t3) ho1 rfl, hex, rfl, fun e he => g1 e (q1.mem_iff.mp he), (q1.map txtOf).trans p1, hb2, q2, q3, ?_⟩, n1⟩)
    rw [q4]
    exact hl
  · exact wpAny_pure (hR _ sb1 ⟨⟨_, es1, _, t2, ho1, hex, rfl, g1, p1, hb1, hf2, hr, hl⟩, n1⟩)

theorem addX_hashed {k : Str} {tk : Tok} {Q : Bool → Shared → Prop} (R : SetX w s.heap a L) (room : L.length + 1 < scanBound)
    (hQ : ∀ h' b, Heap.SameBut a s.heap h' → SetX w h' a (if k ∈ L then L else k :: L) → Q b { s with heap := h' }) :
    wpAny (model P w) A (setAddHashed a (.str k tk) ((PySem.strKind P w).hash k)) Q E s := by
  obtain ⟨⟨o, es, ep, t, ho, hex, hd, g, pm0, hb, hf, hr, hl⟩, nd⟩ := R
  have hlen : es.size = L.length := by rw [← pm0.length_eq, List.length_map, Array.length_toList]
  have hkey : (PySem.strKind P w).is k (.str k tk) = true := strKind_is P w k tk
  have hsc : (Value.str k tk).scannable = true := rfl
  have hel : ElemsOf (PySem.strKind P w) es.toList := txt_elems g
  unfold setAddHashed setAddHashedIn
  refine wpAny_holding (wpAny_bind (wpAny_setState_of ho hd hf ?_))
  dsimp only
  rw [byScan_of hsc hb hel]
  simp only [↓reduceIte]
  unfold setAddByScan
  refine wpAny_bind (wpAny_bind (wpAny_rule (wpAny_bind (wpAny_setScan_of hkey ho hd hf hel ?_))))
  cases hfi : List.findIdx? (fun e => (PySem.strKind P w).is k e.2) es.toList with
  | some j =>
    dsimp only
    obtain ⟨hj, pj, _⟩ := List.findIdx?_eq_some_iff_getElem.mp hfi
    have hm : k ∈ L := pm0.mem_iff.mp (List.mem_map.mpr ⟨es.toList[j], List.getElem_mem hj, (txt_is (P := P) (g _ (List.getElem_mem hj)) k).1 pj⟩)
    refine wpAny_pure (wpAny_pure (hQ s.heap _ (Heap.SameBut.refl a s.heap) ?_))
    rw [if_pos hm]
    exact ⟨⟨o, es, ep, t, ho, hex, hd, g, pm0, hb, hf, hr, hl⟩, nd⟩
  | none =>
    dsimp only
    have hnk : k ∉ L := fun z => by
      obtain ⟨e, he, q⟩ := List.mem_map.mp (pm0.mem_iff.mpr z)
      have c := List.findIdx?_eq_none_iff.mp hfi e he
      rw [(txt_is (P := P) (g e he) k).2 q] at c
      cases c
    have hgw : ∀ (b : Bool) {s1 : Shared} {Q' : Unit → Shared → Prop}, Q' () s1 → wpAny (model P w) A (match b with | true => rule "set.scan.the-table-gave-way" | false => pure ()) Q' E s1 :=
      fun b s1 Q' q => by cases b <;> first | exact wpAny_pure q | exact wpAny_rule q
    have q1 := layNew_perm t es ((PySem.strKind P w).hash k) (.str k tk)
    have q2 := layNew_fits t es ((PySem.strKind P w).hash k) (.str k tk)
    have q3 := layNew_ris t es ((PySem.strKind P w).hash k) (.str k tk) hr
    have q4 := layNew_led t es ((PySem.strKind P w).hash k) (.str k tk)
    revert q1 q2 q3 q4
    generalize layNew t es ((PySem.strKind P w).hash k) (.str k tk) = Z
    obtain ⟨es1, t1, dum, gave⟩ := Z
    intro q1 q2 q3 q4
    dsimp only at q1 q2 q3 q4 ⊢
    rw [Array.toList_push] at q1
    have pc : es1.toList.Perm (((PySem.strKind P w).hash k, Value.str k tk) :: es.toList) := q1.trans (List.perm_append_singleton _ _)
    have p1 : (es1.toList.map txtOf).Perm (k :: L) := (pc.map txtOf).trans (pm0.cons k)
    have g1 : ∀ e ∈ es1.toList, TxtE w e := fun e he => by
      rcases List.mem_cons.mp (pc.mem_iff.mp he) with z | z
      · rw [z]; exact ⟨k, tk, rfl, rfl⟩
      · exact g e z
    have n1 : (k :: L).Nodup := List.nodup_cons.mpr ⟨hnk, nd⟩
    have hsz : es1.size = L.length + 1 := by rw [← Array.length_toList, pc.length_eq, List.length_cons, Array.length_toList, hlen]
    have hb1 : es1.size < scanBound := by rw [hsz]; exact room
    have hled : w.params.followText "set-order" = true ∨ t1.led = true := by rw [q4]; exact hl
    have fin : ∀ h' b, Heap.SameBut a s.heap h' → SetX w h' a (k :: L) → Q b { s with heap := h' } := fun h' b sb r => hQ h' b sb (by rw [if_neg hnk]; exact r)
    refine wpAny_bind (hgw _ ?_)
    split
    · refine wpAny_bind ?_
      rw [hashByValue_scannable 8 hsc]
      refine wpAny_pure ?_
      refine addX_tail ?_ ho hex hd g1 p1 n1 hb1 ?_ ?_ ?_ ?_
      · intro b s1 Q' q; cases b <;> first | exact wpAny_pure q | exact wpAny_rule q
      · first | (split <;> first | exact q2 | exact SetTable.fits_plain_off q2) | exact q2
      · first | (split <;> exact q3) | exact q3
      · first | (split <;> exact hled) | exact hled
      · intro h' sb r; dsimp only; exact wpAny_pure (fin h' _ sb r)
    · refine wpAny_bind (wpAny_pure ?_)
      simp only [↓reduceIte]
      refine addX_tail ?_ ho hex hd g1 p1 n1 hb1 q2 q3 hled ?_
      · intro b s1 Q' q; cases b <;> first | exact wpAny_pure q | exact wpAny_rule q
      · intro h' sb r; dsimp only; exact wpAny_pure (fin h' _ sb r)
end
/-- a list's texts, each once -/
def once (xs : List Str) : List Str := xs.foldl (fun L k => if k ∈ L then L else k :: L) []
theorem once_len (xs : List Str) (i : Nat) : (once (xs.take i)).length ≤ i := by
  induction i with
  | zero => simp [once]
  | succ i ih =>
    rw [List.take_add_one]
    cases h : xs[i]? with
    | none => simp only [Option.toList_none, List.append_nil]; omega
    | some k =>
      have e : once (xs.take i ++ [k]) = (if k ∈ once (xs.take i) then once (xs.take i) else k :: once (xs.take i)) := by
        unfold once
        rw [List.foldl_append]
        rfl
      show (once (xs.take i ++ [k])).length ≤ i + 1
      rw [e]
      split
      · omega
      · rw [List.length_cons]; omega
theorem once_next {xs : List Str} {i : Nat} {k : Str} (h : xs[i]? = some k) : once (xs.take (i + 1)) = (if k ∈ once (xs.take i) then once (xs.take i) else k :: once (xs.take i)) := by
  rw [List.take_add_one, h]
  show once (xs.take i ++ [k]) = _
  unfold once
  rw [List.foldl_append]
  rfl
theorem once_mem_gen (k : Str) : ∀ (xs L : List Str), k ∈ xs.foldl (fun L k => if k ∈ L then L else k :: L) L ↔ k ∈ L ∨ k ∈ xs
  | [], L => by simp
  | x :: r, L => by
    rw [List.foldl_cons, once_mem_gen k r]
    by_cases h : x ∈ L
    · rw [if_pos h, List.mem_cons]
      constructor
      · rintro (z | z)
        · exact .inl z
        · exact .inr (.inr z)
      · rintro (z | z | z)
        · exact .inl z
        · exact .inl (z ▸ h)
        · exact .inr z
    · rw [if_neg h, List.mem_cons, List.mem_cons]
      constructor
      · rintro ((z | z) | z)
        · exact .inr (.inl z)
        · exact .inl z
        · exact .inr (.inr z)
      · rintro (z | z | z)
        · exact .inl (.inr z)
        · exact .inl (.inl z)
        · exact .inr z
theorem once_mem {k : Str} {xs : List Str} : k ∈ once xs ↔ k ∈ xs := by
  unfold once
  rw [once_mem_gen]
  simp
theorem once_nodup : ∀ (xs L : List Str), L.Nodup → (xs.foldl (fun L k => if k ∈ L then L else k :: L) L).Nodup
  | [], L, h => h
  | x :: r, L, h => by
    rw [List.foldl_cons]
    refine once_nodup r _ ?_
    split
    · exact h
    · rename_i hn
      exact List.nodup_cons.mpr ⟨hn, h⟩
section
variable {P : Program} {w : World} {A : Around} {E : Value → Shared → Prop} {s : Shared}
theorem update_txts {I : Addr} {fp wr : List Addr} {G : Array GenState → Array GenState → Prop} {n : Nat} {Pv : Nat → Value → Prop} {St : Nat → Shared → Prop} {R : Result → Shared → Prop}
    (W : WalksS P w A.in1 I fp wr G n Pv St) (S : Addr) (hSf : S ∉ fp) (xs : List Str) (hn : n = xs.length) (hb : xs.length + 1 < scanBound) (hval : ∀ i v, Pv i v → ∃ k t, xs[i]? = some k ∧ v = .str k t) :
    ∀ (k i : Nat) (s : Shared), n - i = k → i ≤ n → St i s → SetX w s.heap S (once (xs.take i)) →
      (∀ s', Moved (S :: wr) G s s' → SetX w s'.heap S (once xs) → R (.ok (.ret .none)) s') →
      codeAny (model P w) A (.builtin "set.update.loop" ⟨[.ref S, .ref I], []⟩) R s := by
  have hSw : S ∉ wr := fun h => hSf (W.sub _ h)
  intro k
  induction k with
  | zero =>
    intro i s hk hi hst hS hR
    obtain rfl : i = n := by omega
    rw [List.take_of_length_le (Nat.le_of_eq hn.symm)] at hS
    refine codeAny_builtin F.entry_set_update_loop ?_
    rw [Around.under_plainId F.plain_set_update_loop _]
    show wpAny _ A.in1 (pyNext (.ref I) >>= _) _ _ s
    refine wpAny_bind (W.done s _ _ hst fun s' hm => ?_)
    exact wpAny_pure (hR s' (hm.mono fun b hb => List.mem_cons_of_mem _ hb) (hS.at' fun o e => hm.heap S o hSw e))
  | succ k ih =>
    intro i s hk hi hst hS hR
    have hlt : i < n := by omega
    refine codeAny_builtin F.entry_set_update_loop ?_
    rw [Around.under_plainId F.plain_set_update_loop _]
    show wpAny _ A.in1 (pyNext (.ref I) >>= _) _ _ s
    refine wpAny_bind (W.item i s _ _ hlt hst fun v s' hP hst' hm => ?_)
    obtain ⟨z, t, hz, rfl⟩ := hval i v hP
    have hS' : SetX w s'.heap S (once (xs.take i)) := hS.at' fun o e => hm.heap S o hSw e
    show wpAny _ A.in1 (holding [Value.str z t] (setAdd S (.str z t)) >>= _) _ _ s'
    refine wpAny_bind (wpAny_holding ?_)
    unfold setAdd
    refine wpAny_holding (wpAny_bind ((PySem.strKind P w).pyHash (k := z) (strKind_is _ _ _ _) ?_))
    have hl := once_len xs i
    refine addX_hashed (s := { s' with toks := s'.toks + 1 }) hS' (by omega) fun h' b0 hsb hS2 => ?_
    rw [← once_next hz] at hS2
    refine wpAny_pure ⟨plainId_quiet F.plain_set_update_loop _, ih (i + 1) _ (by omega) hlt (W.frame _ s' _ _ hst' (Nat.le_succ _) fun b hb o e => ?_) hS2 fun s'' hm'' hS'' => ?_⟩
    · rw [hsb.2 b (fun q : b = S => hSf (by rw [← q]; exact hb))]; exact e
    · refine hR s'' (Moved.trans W.gtrans ((hm.mono fun b hb => List.mem_cons_of_mem _ hb).then_heap (Nat.le_succ _) fun b o hb e => ?_) hm'') hS''
      rw [hsb.2 b (fun q : b = S => hb (by rw [q]; exact List.mem_cons_self))]; exact e
/-- what set() makes -/
abbrev bare (w : World) : Obj := { cls := .type "set", dict := none, data := .set #[] 0 (.fresh 0 0 (!w.params.followText "set-order")) }
theorem bareX {h : Heap} {a : Addr} (ho : h.get? a = some (bare w)) : SetX w h a [] :=
  ⟨⟨_, #[], 0, _, ho, ⟨rfl, rfl, rfl⟩, rfl, (fun e he => by simp at he), (by simp), (by decide), (by rfl), List.Pairwise.nil, by
    show _ ∨ (!w.params.followText "set-order") = true
    cases w.params.followText "set-order"
    · exact .inr rfl
    · exact .inl rfl⟩, List.nodup_nil⟩
theorem StrsAre.txt_at : ∀ {us : List Value} {ks : List Str}, StrsAre us ks → ∀ (i : Nat) (v : Value), us[i]? = some v → ∃ k t, ks[i]? = some k ∧ v = .str k t
  | _, _, .nil, i, v, h => by simp at h
  | _, _, .cons n t hr, 0, v, h => by simp at h; exact ⟨n, t, rfl, h.symm⟩
  | _, _, .cons n t hr, i + 1, v, h => by
    simp only [List.getElem?_cons_succ] at h ⊢
    exact txt_at hr i v h
set_option maxRecDepth 100000 in
set_option maxHeartbeats 3200000 in
theorem set_of_txts {l : Addr} {items : Array Value} (xs : List Str) {Q : Value → Shared → Prop} (hh : A.handled = none) (hl : s.heap.IsTuple l items) (hit : StrsAre items.toList xs) (hb : xs.length + 1 < scanBound)
    (h : ∀ (h' : Heap) (tk : Nat), SetX w h' s.heap.objs.size (once xs) → (∀ b o, s.heap.get? b = some o → h'.get? b = some o) → Q (.ref s.heap.objs.size) { s with heap := h', toks := tk }) :
    wpAny (model P w) A (call (.type "set") [.ref l]) Q E s := by
  have hisz : items.size = xs.length := by
    have q := StrsAre.len_eq hit
    rw [Array.length_toList] at q
    exact q
  obtain ⟨c, tl, hmro⟩ := F.called_set.mro
  have hmade := F.called_set.made
  have hsub := F.called_set.sub
  refine wpAny_call (codeAny_of_tree ?_)
  show wpAny _ _ (callAny (.type "set") _) _ _ _
  refine wpAny_pure ⟨Code.quiet_builtin _ (by decide +kernel), codeAny_builtin F.entry_type_call ?_⟩
  rw [Around.under_plain (weight_type_call_type "set" [.ref l] []) rfl]
  have h1 := F.called_set.notType
  have h2 := F.called_set.canCreate
  have hct := F.typeCall_set_1 (.ref l)
  repeat (any_goals (first | assumption | wp_step))
  refine codeAny_mono (code_set_led1 (.ref l) (E := E) (Q₁ := fun obj s1 => obj = .ref s.heap.objs.size ∧ s1 = { s with heap := s.heap.push (bare w) }) ⟨rfl, rfl⟩) fun r s1 hr => ?_
  cases r with
  | error e => exact hr
  | ok fl =>
    cases fl with
    | ret obj =>
      obtain ⟨rfl, rfl⟩ := hr
      have hS : (s.heap.push (bare w)).get? s.heap.objs.size = some (bare w) := Heap.get?_push_size _ rfl
      have hT : Shared.TypeIs { s with heap := s.heap.push (bare w) } (.ref s.heap.objs.size) "set" := ⟨_, hS, rfl⟩
      have hli := F.called_set.init.lookup
      have hbi := F.called_set.init.bind (.ref s.heap.objs.size)
      repeat (any_goals (first | assumption | wp_step))
      refine codeAny_mono (codeAny_call_builtin (R := wants (fun r s2 => r = .none ∧ ∃ h' tk, s2 = { s with heap := h', toks := tk } ∧ SetX w h' s.heap.objs.size (once xs) ∧
          (∀ b o, s.heap.get? b = some o → h'.get? b = some o)) E) F.called_set.init.plain F.entry_set_init (check_set_init_1 hT ?_)) fun r2 s2 hr2 => ?_
      · obtain ⟨⟨ocls, odict, odata, oslots⟩, hol, hcl, nl, hdl⟩ := hl
        simp only at hcl hdl
        subst hcl; subst hdl
        have hol' : (s.heap.push (bare w)).get? l = some { cls := .type "tuple", dict := odict, data := .seq items nl, slots := oslots } := Heap.get?_push_of_some _ hol
        have hsls := F.sub_tuple_set
        have hslf := F.sub_tuple_frozenset
        have hne : (Value.type "tuple" == Value.type "dict") = false := by decide
        have hl1 : (s.heap.push (bare w)).IsTuple l items := ⟨_, hol', rfl, nl, rfl⟩
        unfold Builtin.«set.__init__» noKeywords Builtin.Frozenset.updateFrom
        generalize hPI : pyIter = PI
        wp_walk
        subst hPI
        refine wpAny_pyIter_tuple hl1 (wpAny_bind (wpAny_runValue ?_))
        have hlS : l < s.heap.objs.size := Heap.lt_size hol
        have hh3 : A.in1.in1.in1.handled = none := by simp [hh]
        have hz1 : (s.heap.push (bare w)).objs.size = s.heap.objs.size + 1 := Heap.size_push ..
        have hneI : l ≠ (s.heap.push (bare w)).objs.size := by rw [hz1]; exact Nat.ne_of_lt (Nat.lt_succ_of_lt hlS)
        have hSf : s.heap.objs.size ∉ [(s.heap.push (bare w)).objs.size, l] := by
          rw [hz1]; simp only [List.mem_cons, List.not_mem_nil, or_false, not_or]
          exact ⟨Nat.ne_of_lt (Nat.lt_succ_self _), Nat.ne_of_gt hlS⟩
        refine update_txts ((Walks.tuple hh3 _ l hneI items).toS) s.heap.objs.size
          hSf xs hisz hb (fun i v hv => StrsAre.txt_at hit i v (by rw [Array.getElem?_toList]; exact hv)) (items.size - 0) 0 _ (by omega) (Nat.zero_le _)
          ⟨⟨_, Heap.get?_push_size _ rfl, rfl, rfl⟩, (hl1.push _)⟩ ?hS0 ?hR
        case hS0 =>
          exact bareX (Heap.get?_push_of_some _ hS)
        case hR =>
          intro s' hm hS'
          obtain ⟨h', g2, d', tk', os'⟩ := s'
          have eg : g2 = s.gens := hm.gens
          have ed : d' = s.drawn := hm.drawn
          have eo : os' = s.os := hm.os
          subst eg; subst ed; subst eo
          show wpAny _ _ _ _ _ _
          refine wpAny_pure ?_
          show wpAny _ _ (ret Value.none) _ _ _
          refine wpAny_pure ⟨rfl, h', tk', rfl, hS', fun b o e => ?_⟩
          have hb0 : b < s.heap.objs.size := Heap.lt_size e
          exact hm.heap b o (by rw [hz1]; simp only [List.mem_cons, List.not_mem_nil, or_false, not_or]; exact ⟨Nat.ne_of_lt hb0, Nat.ne_of_lt (Nat.lt_succ_of_lt hb0)⟩) (Heap.get?_push_of_some _ (Heap.get?_push_of_some _ e))
      · cases r2 with
        | error e => exact hr2
        | ok fl2 =>
          cases fl2 with
          | ret r =>
            obtain ⟨rfl, h', tk, rfl, hS', hk'⟩ := hr2
            repeat (any_goals (first | assumption | wp_step))
            exact h _ _ hS' hk'
          | _ => exact hr2.elim
    | _ => exact hr.elim
theorem sorted_setX {a : Addr} {L : List Str} {Q : Value → Shared → Prop} (R : SetX w s.heap a L) (hh : A.handled = none) (h64 : L.length < 64)
    (hQ : ∀ s' p (out : Array Value) (c : Nat) (ys : List Str), (∀ b o, s.heap.get? b = some o → s'.heap.get? b = some o) → s'.gens = s.gens → s'.os = s.os → s.heap.objs.size ≤ p →
      s'.heap.get? p = some (seqObj "list" out c) → StrsAre out.toList ys → ys.Perm L → sortedS ys = true → Q (.ref p) s') :
    wpAny (model P w) A (call (.builtin "sorted") [.ref a]) Q E s := by
  obtain ⟨⟨o, es, ep, t, ho, hex, hd, g, pm0, hb, hf, hr, hl⟩, nd⟩ := R
  have hlen : es.size = L.length := by rw [← pm0.length_eq, List.length_map, Array.length_toList]
  refine Calls.call_function_entry kind_sorted plain_sorted entry_sorted (args_sorted1 _) ?_
  unfold Builtin.«sorted»
  refine wpAny_bind (m := checkCount "sorted" 1 1 _) (wpAny_pure ?_)
  refine wpAny_bind (collect_set (A := A.in1) hh ⟨o, ho, hex.1, hd⟩ hf hb hr hl fun s1 vs k1 hz g1 o1 pm => ?_)
  have hvl : vs.length = L.length := by rw [pm.length_eq, List.length_map, Array.length_toList, hlen]
  have hV : ∀ v ∈ vs, ∃ x tk, v = Value.str x tk := fun v hv => by
    obtain ⟨e, he, q⟩ := List.mem_map.mp (pm.mem_iff.mp hv)
    obtain ⟨k, tk, h1, _⟩ := g e he
    exact ⟨k, tk, by rw [← q]; exact h1⟩
  have hS : StrsAre vs (vs.map strOf) := strsAre_map vs hV
  have pk : (vs.map strOf).Perm L := by
    refine List.Perm.trans ?_ pm0
    have q := pm.map strOf
    rw [List.map_map] at q
    have e : es.toList.map (strOf ∘ fun x => x.2) = es.toList.map txtOf := by
      refine List.map_congr_left fun e he => ?_
      obtain ⟨k, tk, h1, _⟩ := g e he
      show strOf e.2 = txtOf e
      unfold txtOf
      rw [h1] <;> rfl
    rw [e] at q
    exact q
  refine wpAny_bind (wpAny_newList ?_ (by rw [hvl, sizeLine_eq]; omega))
  have hoL : (s1.heap.push (seqObj "list" vs.toArray 0)).get? s1.heap.objs.size = some (seqObj "list" vs.toArray 0) := Heap.get?_push_size _ rfl
  refine wpAny_bind (wpAny_holding (wpAny_call_entry slot_list_sort ⟨_, hoL, rfl⟩ entry_list_sort
    (list_sort_treeK strKind_oneLt hoL hS.keysOf (fun v1 v2 rest e => keyKind_strs (by rw [← e]; exact hS)) (by rw [hvl]; exact h64) fun st' hp hs => ⟨_, rfl, ?_⟩) (args_list_sort _)))
  obtain ⟨ys, b1, b2, b3⟩ := sorted_out_str hS hp hs
  obtain ⟨c, hc⟩ := sortedHeap_at (vs := vs) (out := (arrOf st').map (·.2)) hoL
  refine wpAny_pure ⟨_, rfl, hQ _ s1.heap.objs.size _ c ys (fun b u e => ?_) g1 o1 hz hc b1 (b2.trans pk) b3⟩
  have q := k1 b u e
  have hlt := Heap.lt_size q
  show (sortedHeap (s1.heap.push (seqObj "list" vs.toArray 0)) s1.heap.objs.size vs _).get? b = some u
  rw [sortedHeap_old (Nat.ne_of_lt hlt) (by rw [size_push']; exact Nat.lt_succ_of_lt hlt)]
  exact Heap.get?_push_of_some _ q
end
end XS
namespace L2
open PySem PySem.Spec PyProof.Rows XS
section
variable {X : Cx}
/-- the set of texts at a -/
def SetXO (w : World) (a : Addr) (L : List Str) : HO := .ext fun h => SetX w h a L
theorem setXO_new {w : World} {P : Program} {H : Hp} {h : Heap} {a : Addr} {L : List Str} (R : SetX w h a L) : ObjOk P w H h a (SetXO w a L) := by
  have ⟨⟨o, _, _, _, ho, _⟩, _⟩ := R
  exact ⟨R, ⟨o, ho⟩, fun h1 h2 p k => p.at' k⟩
theorem txts_of_vals : ∀ {ys : List Str} {us : List Value}, Vals (ys.map V.str) us → StrsAre us ys
  | [], _, .nil => .nil
  | y :: ys, _, .cons r t => by
    obtain ⟨k, rfl⟩ := r
    exact .cons y k (txts_of_vals t)
/-- set(t), t a tuple of texts -/
def rSetX (K : PySem.W.Frag) (w : World) : List V → Hp → VK → Prop := fun vs H Q => ∃ (l : Addr) (xs : List Str), vs = [V.ref l] ∧ SqT K H l (xs.map V.str) ∧ xs.length < 64 ∧ ∀ p, H p = none → Q (.ref p) (upd H p (SetXO w p (once xs)))
theorem cr_setX (hc : X.calm = true) : CallR X (.type "set") (rSetX X.K X.w) := by
  intro pins s σ H vs us Q I r h
  obtain ⟨l, xs, rfl, hq, h64, q⟩ := h
  rw [Vals.ref1 r]
  obtain ⟨its, rv, pl, hz⟩ := I.tuple hq
  refine set_of_txts xs (I.ok.hd hc) pl (by simpa using txts_of_vals rv) (by unfold scanBound; omega) fun h' tk R k => ?_
  exact ⟨.ref _, upd H s.heap.objs.size (SetXO X.w s.heap.objs.size (once xs)), I.laid (t' := tk) k (Nat.le_refl _) (setXO_new R), rfl, q _ (I.hok.fresh (Nat.le_refl _))⟩
/-- sorted(s), s a set of texts -/
def rSortedX (w : World) : List V → Hp → VK → Prop := fun vs H Q => ∃ (a : Addr) (L : List Str), vs = [V.ref a] ∧ H a = some (SetXO w a L) ∧ L.length < 64 ∧
  ∀ (ys : List Str) (p : Addr), ys.Perm L → sortedS ys = true → H p = none → Q (.ref p) (upd H p (.lst (ys.map V.str)))
theorem cr_sortedX (hc : X.calm = true) : CallR X (.builtin "sorted") (rSortedX X.w) := by
  intro pins s σ H vs us Q I r h
  obtain ⟨a, L, rfl, ha, h64, q⟩ := h
  have R : SetX X.w s.heap a L := (I.hok a _ ha).1
  rw [Vals.ref1 r]
  refine sorted_setX R (I.ok.hd hc) h64 fun s' p out c ys k g o hp hg hi pm hs => ?_
  have hlen : (ys.map V.str).length ≤ sizeLine := by rw [List.length_map, pm.length_eq, sizeLine_eq]; omega
  have hn : H p = none := I.hok.fresh hp
  have J : Inv X pins σ (upd H p (.lst (ys.map V.str))) { s with heap := s'.heap, gens := s'.gens, drawn := s'.drawn, toks := s'.toks } :=
    I.call (ch := []) (Un.laid k hp hn) (I.hok.laid k hp ⟨hlen, out.toList, c, vals_of_strs hi, hg⟩) (by rw [g]; exact I.bare) (fun _ z => nomatch z)
  have e : s' = { s with heap := s'.heap, gens := s'.gens, drawn := s'.drawn, toks := s'.toks } := by
    cases s'
    cases s
    cases o
    rfl
  rw [e]
  exact ⟨.ref p, _, J, rfl, q ys p pm hs hn⟩
end
end L2
set_option Elab.async false
set_option linter.all false
set_option maxRecDepth 100000
set_option maxHeartbeats 1000000
/-! list(reversed(t)), t a tuple -/
namespace XR
open PySem PySem.Spec PyProof.Rows RT

theorem no_len : typeLookup (.type "reversed") "__len__" = pure none := by rw [typeLookup_type, builtinLookup_eq_fast]; kernel_rfl
theorem has_hint : typeLookup (.type "reversed") "__length_hint__" = pure (some (.builtin "reversed.__length_hint__")) := by rw [typeLookup_type, builtinLookup_eq_fast]; kernel_rfl
theorem slot_hint : Slot "reversed" "__length_hint__" "reversed.__length_hint__" :=
  .of (owner := "reversed") (n := "__length_hint__") has_hint (by decide +kernel) (by decide +kernel) (by decide +kernel)
    (by first | exact .inl (by decide +kernel) | exact .inr (by decide +kernel)) (by rw [isSubtype_type]; kernel_rfl)
theorem entry_hint : entryFor table "reversed.__length_hint__" = some Builtin.«reversed.__length_hint__» := entryFor_of_tree (by kernel_rfl)
theorem args_hint (a : Value) : argsOk "reversed.__length_hint__" ⟨[a], []⟩ := by
  unfold argsOk
  kernel_rfl
theorem type_hint : typeOf (.builtin "reversed.__length_hint__") = pure (.type "method_descriptor") := by kernel_rfl
theorem rtWalks {prog : Program} {w : World} {A : Around} (hh : A.handled = none) (I t : Addr) (hne : t ≠ I) (items : Array Value) (hsz : items.size ≤ sizeLine) :
    Walks prog w A I [I, t] [I] items.size (fun i v => items[items.size - 1 - i]? = some v) (fun i h => i ≤ items.size ∧ IsRt h I t ((items.size : Int) - 1 - (i : Int)) ∧ IsTup h t items) where
  sub := fun b hb => by simp at hb; simp [hb]
  frame := fun _ _ _ x hk => ⟨x.1, x.2.1.at fun o e => hk I (by simp) o e, let ⟨o, ho, r⟩ := x.2.2; ⟨o, hk t (by simp) o ho, r⟩⟩
  item := fun i s Q E hi x hQ => by
    have e : (items.size : Int) - 1 - (i : Int) = ((items.size - 1 - i : Nat) : Int) := by omega
    have hit := x.2.1
    rw [e] at hit
    have hx : items[items.size - 1 - i]? = some (items[items.size - 1 - i]'(by omega)) := Array.getElem?_eq_getElem (by omega)
    refine next_rt_item hit x.2.2 hx hsz fun h' hit' hs' => ?_
    have e2 : ((items.size - 1 - i : Nat) : Int) - 1 = (items.size : Int) - 1 - ((i + 1 : Nat) : Int) := by omega
    rw [e2] at hit'
    obtain ⟨o, ho, r⟩ := x.2.2
    exact hQ _ h' (s.toks + 1) hx ⟨hi, hit', ⟨o, (hs'.2 t hne).trans ho, r⟩⟩ fun b o hb eo => hs'.extBut b o (fun h => hb (by simp [h])) eo
  done := fun s Q E x hQ => by
    have e : (items.size : Int) - 1 - (items.size : Int) = -1 := by omega
    have hit := x.2.1
    rw [e] at hit
    exact next_rt_end hh hit fun h' he' => hQ h' s.toks fun b o hb eo => he' b o (fun h => hb (by simp [h])) eo
  self := fun _ _ _ _ x hQ => iter_rt x.2.1 hQ
section
variable {prog : Program} {w : World} {A : Around} {E : Value → Shared → Prop} {s : Shared}
theorem hint_call {it t : Addr} {items : Array Value} {Q : Value → Shared → Prop} (hit : IsRt s.heap it t ((items.size : Int) - 1)) (ht : IsTup s.heap t items) (hz : items.size ≤ sizeLine)
    (h : ∀ k tk, Q (.int (items.size : Int) k) { s with toks := tk }) : wpAny (model prog w) A (call (.builtin "reversed.__length_hint__") [.ref it]) Q E s := by
  obtain ⟨o, ho, hc, hd⟩ := id hit
  refine wpAny_call_entry slot_hint hit.typeIs entry_hint ?_ (args_hint _)
  unfold Builtin.«reversed.__length_hint__»
  refine wpAny_bind (wpAny_of_eq (a := Value.ref it) (by first | rfl | kernel_rfl) ?_)
  try dsimp only
  refine wpAny_bind (wpAny_field ho hd (x := .ref t) rfl ?_)
  show wpAny _ _ (call (.builtin "len") [.ref t] >>= _) _ _ s
  rw [sizeLine_eq] at hz
  refine wpAny_bind (PyProof.Rows.len_tuple ht (by omega) ?_)
  refine wpAny_bind (wpAny_of_eq (a := some ((items.size : Nat) : Int)) rfl ?_)
  try dsimp only
  refine wpAny_bind (wpAny_field (s := { s with toks := s.toks + 1 + 1 }) ho hd (x := rawInt ((items.size : Int) - 1)) rfl ?_)
  show wpAny _ _ (if ((items.size : Nat) : Int) < (items.size : Int) - 1 + 1 then _ else _) _ _ _
  rw [if_neg (by omega)]
  have e : (items.size : Int) - 1 + 1 = (items.size : Int) := by omega
  rw [e]
  first
    | exact wpAny_bind (wpAny_mkInt (wpAny_pure ⟨_, rfl, h _ _⟩))
    | (unfold retInt; exact wpAny_bind (wpAny_mkInt (wpAny_pure ⟨_, rfl, h _ _⟩)))
theorem extend_rt {R : Result → Shared → Prop} (hh : A.handled = none) {it t : Addr} {items : Array Value} (hit : IsRt s.heap it t ((items.size : Int) - 1)) (ht : IsTup s.heap t items) (hti : t ≠ it) (hz : items.size ≤ sizeLine)
    (S : Addr) (res : Value) (c0 : Nat) (hS : s.heap.get? S = some { cls := .type "list", data := .seq #[] c0 }) (hSi : S ≠ it) (hSt : S ≠ t)
    (hR : ∀ h' tk acc' c', (∀ b o, b ≠ S → b ≠ it → s.heap.get? b = some o → h'.get? b = some o) → h'.get? S = some { cls := .type "list", dict := none, data := .seq acc' c', slots := #[] } →
      ItemsOf (fun i v => items[items.size - 1 - i]? = some v) acc' items.size → R (.ok (.ret res)) { s with heap := h', toks := tk }) :
    wpAny (model prog w) A.in1 (Builtin.List.listExtendWith (.ref S) (.ref it) res)
      (fun fin s' => match fin with | .done f => R (.ok f) s' | .again c' => c'.quiet = true ∧ codeAny (model prog w) A c' R s') (fun e s' => R (.error e) s') s := by
  have hSf : S ∉ [it, t] := by simp only [List.mem_cons, List.not_mem_nil, or_false, not_or]; exact ⟨hSi, hSt⟩
  have hT : s.TypeIs (.ref it) "reversed" := hit.typeIs
  have W := (rtWalks (prog := prog) (w := w) (A := A.in1) hh it t hti items hz).toS
  have e0 : ((items.size : Nat) : Int) - 1 - ((0 : Nat) : Int) = (items.size : Int) - 1 := by omega
  unfold Builtin.List.listExtendWith
  refine wpAny_bind (wpAny_typeOf hT ?_)
  have h1 : Builtin.List.listSameRef (.ref S) (.ref it) = false := by simp [Builtin.List.listSameRef, hSi]
  rw [if_neg (by rw [h1]; decide)]
  refine wpAny_bind (iter_rt hit ?_)
  refine wpAny_bind (wpAny_holding ?_)
  unfold Builtin.List.listLengthHint
  refine wpAny_bind (wpAny_specialOf hT no_len ?_)
  show wpAny _ _ (specialOf (Value.ref it) (Str.ofString "__length_hint__") >>= _) _ _ _
  refine wpAny_bind (wpAny_specialOf hT has_hint ?_)
  generalize hid : ("reversed.__length_hint__" : String) = id0
  wp_delta
  rw [show splitId id0 = some ("reversed", "__length_hint__") from by subst hid; decide +kernel]
  subst hid
  refine wpAny_bind (wpAny_isInstance (b := true) hT F.sub_reversed_self ?_)
  show wpAny _ _ (rule "list.length-hint.hint" >>= _) _ _ _
  refine wpAny_bind (wpAny_rule ?_)
  have hbind : bindSpecial (.builtin "reversed.__length_hint__") (.ref it) = pure (.builtin "reversed.__length_hint__", [.ref it]) := by
    unfold bindSpecial
    rw [type_hint]
    rfl
  refine wpAny_bind (wpAny_of_eq hbind ?_)
  refine wpAny_bind (wpAny_attempt (hint_call hit ht hz fun k tk => ?_))
  show wpAny _ _ (asInt? (Value.int ((items.size : Nat) : Int) k) >>= _) _ _ _
  have ha : asInt? (Value.int ((items.size : Nat) : Int) k) = pure (some ((items.size : Nat) : Int)) := rfl
  rw [ha, pure_bind]
  rw [sizeLine_eq] at hz
  have f1 : Builtin.List.listFitsIndex ((items.size : Nat) : Int) = true := by
    unfold Builtin.List.listFitsIndex
    simp only [Bool.and_eq_true, decide_eq_true_eq]
    omega
  have f2 : Builtin.List.listTooLong (((items.size : Nat) : Int)).toNat = false := by
    unfold Builtin.List.listTooLong
    rw [sizeLine_eq]
    simp only [decide_eq_false_iff_not]
    omega
  dsimp only
  rw [if_neg (show ¬ (!Builtin.List.listFitsIndex ((items.size : Nat) : Int)) = true by rw [f1]; decide), if_neg (show ¬ ((items.size : Nat) : Int) < 0 by omega), if_neg (show ¬ Builtin.List.listTooLong (((items.size : Nat) : Int)).toNat = true by rw [f2]; decide)]
  refine wpAny_pure ?_
  have fin : ∀ (h2 : Heap), h2.get? S = some { cls := .type "list", dict := none, data := .seq #[] c0, slots := #[] } ∨ (∃ c1, h2.get? S = some { cls := .type "list", dict := none, data := .seq #[] c1, slots := #[] }) →
      (∀ b o, b ≠ S → s.heap.get? b = some o → h2.get? b = some o) →
      (fun fin s' => match fin with | .done f => R (.ok f) s' | .again c' => c'.quiet = true ∧ codeAny (model prog w) A c' R s') (PySem.Fin.again (.builtin "list.extend.loop" ⟨[.ref S, .ref it, res], []⟩)) { s with heap := h2, toks := tk } := by
    intro h2 hS2 k2
    obtain ⟨c1, hS2⟩ : ∃ c1, h2.get? S = some { cls := .type "list", dict := none, data := .seq #[] c1, slots := #[] } := by
      rcases hS2 with z | z
      · exact ⟨_, z⟩
      · exact z
    obtain ⟨ot, hot, rt⟩ := ht
    refine ⟨plainId_quiet F.plain_extend_loop _, codeAny_extend_loopS W (by rw [sizeLine_eq]; omega) S hSf res items.size 0 { s with heap := h2, toks := tk } #[] c1 rfl (Nat.zero_le _)
      ⟨Nat.zero_le _, by rw [e0]; exact hit.at fun o e => k2 it o (Ne.symm hSi) e, ⟨ot, k2 t ot (Ne.symm hSt) hot, rt⟩⟩ hS2 (ItemsOf.nil _) fun s' acc' c' hm hS' hacc => ?_⟩
    rw [Moved.eq_with hm]
    refine hR s'.heap s'.toks acc' c' (fun b o hb hb2 e => hm.heap b o (fun hmem => ?_) (k2 b o hb e)) hS' hacc
    rcases List.mem_cons.mp hmem with e' | hmem
    · exact hb e'
    · exact hb2 (List.mem_singleton.mp hmem)
  split
  · refine wpAny_bind (wpAny_rule ?_)
    refine wpAny_bind ?_
    show wpAny _ A.in1 (updateSeq S (·.push .none) >>= fun _ => updateSeq S (·.pop)) _ _ _
    refine wpAny_bind (wpAny_updateSeq (s := { s with toks := tk }) hS rfl ?_ (Nat.zero_le _) (by rw [sizeLine_eq]; show 1 ≤ _; decide))
    have hS3 := Heap.get?_update_self (Obj.mapSeq (·.push Value.none)) hS rfl
    refine wpAny_updateSeq (s := { s with heap := s.heap.update S (Obj.mapSeq (·.push Value.none)), toks := tk }) hS3 rfl ?_ (by rw [sizeLine_eq]; show 1 ≤ _; decide) (Nat.zero_le _)
    have hS4 := Heap.get?_update_self (Obj.mapSeq (·.pop)) hS3 rfl
    refine wpAny_pure (fin _ (.inr ⟨_, hS4⟩) fun b o hb e => ?_)
    exact (Heap.get?_update_other _ _ (Ne.symm hb)).trans ((Heap.get?_update_other _ _ (Ne.symm hb)).trans e)
  · exact wpAny_pure (fin s.heap (.inl hS) fun b o _ e => e)
theorem call_list_rt {Q : Value → Shared → Prop} (hh : A.handled = none) {it t : Addr} {items : Array Value} (hit : IsRt s.heap it t ((items.size : Int) - 1)) (ht : IsTup s.heap t items) (hti : t ≠ it) (hz : items.size ≤ sizeLine)
    (hQ : ∀ h' tk acc' c', (∀ b o, b ≠ it → s.heap.get? b = some o → h'.get? b = some o) →
      h'.get? s.heap.objs.size = some { cls := .type "list", dict := none, data := .seq acc' c', slots := #[] } → ItemsOf (fun i v => items[items.size - 1 - i]? = some v) acc' items.size → Q (.ref s.heap.objs.size) { s with heap := h', toks := tk }) :
    wpAny (model prog w) A (call (.type "list") [.ref it]) Q E s := by
  refine callType_codes (Q₁ := fun obj s1 => obj = .ref s.heap.objs.size ∧ s1 = { s with heap := s.heap.push { cls := .type "list", data := .seq #[] } }) F.called_list (F.typeCall_list_1 _) F.entry_list_init
    (code_list_new _ ⟨rfl, rfl⟩) fun obj s1 h1 => ?_
  obtain ⟨rfl, rfl⟩ := h1
  have hS : (s.heap.push { cls := .type "list", data := .seq #[] }).get? s.heap.objs.size = some { cls := .type "list", data := .seq #[] } := Heap.get?_push_size _ rfl
  have hS2 := Heap.get?_update_self (Obj.mapSeq (fun _ => (#[] : Array Value))) hS rfl
  have oth : ∀ b o, b ≠ s.heap.objs.size → (s.heap.push { cls := .type "list", data := .seq #[] }).get? b = some o → ((s.heap.push { cls := .type "list", data := .seq #[] }).update s.heap.objs.size (Obj.mapSeq (fun _ => (#[] : Array Value)))).get? b = some o :=
    fun b o hb e => (Heap.get?_update_other _ _ (Ne.symm hb)).trans e
  have old : ∀ b o, s.heap.get? b = some o → ((s.heap.push { cls := .type "list", data := .seq #[] }).update s.heap.objs.size (Obj.mapSeq (fun _ => (#[] : Array Value)))).get? b = some o :=
    fun b o e => oth b o (Nat.ne_of_lt (Heap.lt_size e)) (Heap.get?_push_of_some _ e)
  refine ⟨⟨_, hS, rfl⟩, F.args_list_init_2 _ _, ?_⟩
  show wpAny _ _ (do let old ← Builtin.List.listItems (.ref s.heap.objs.size); Builtin.List.listUpdate (.ref s.heap.objs.size) (fun _ => #[]); letGo old.toList.reverse; Builtin.List.listExtendWith (.ref s.heap.objs.size) (.ref it) .none) _ _ _
  refine wpAny_bind ?_
  unfold Builtin.List.listItems
  refine wpAny_bind (wpAny_seqItems hS rfl (wpAny_pure ?_))
  show wpAny _ _ (updateSeq s.heap.objs.size (fun _ => #[]) >>= fun _ => letGo (#[] : Array Value).toList.reverse >>= fun _ => Builtin.List.listExtendWith (.ref s.heap.objs.size) (.ref it) .none) _ _ _
  refine wpAny_bind (wpAny_updateSeq hS rfl ?_)
  refine wpAny_bind (wpAny_letGo ?_)
  obtain ⟨oi, hoi, ri⟩ := hit
  obtain ⟨ot, hot, rt⟩ := ht
  refine extend_rt (A := A.in1) hh ⟨oi, old _ _ hoi, ri⟩ ⟨ot, old _ _ hot, rt⟩ hti hz s.heap.objs.size .none _ hS2 (Nat.ne_of_gt (Heap.lt_size hoi)) (Nat.ne_of_gt (Heap.lt_size hot)) fun h' tk acc' c' hk hS' hacc => ?_
  exact ⟨rfl, hQ h' tk acc' c' (fun b o hb e => hk b o (Nat.ne_of_lt (Heap.lt_size e)) hb (old b o e)) hS' hacc⟩
end
end XR
namespace L2
open PySem PySem.Spec PyProof.Rows RT XR
/-- list(reversed(x)), x a tuple: a new list -/
def tListRev (K : PySem.W.Frag) (te : TE) : TE := fun σ H Q => te σ H fun v H1 => ∃ (a : Addr) (xs : List V), v = .ref a ∧ SqT K H1 a xs ∧ ∀ q, H1 q = none → Q (.ref q) (upd H1 q (.lst xs.reverse))
section
variable {X : Cx}
theorem pe_listRev {e : Expr} {te : TE} {p p2 pos pos2 : Pos} (hc : X.calm = true) (hg : Gl X "list") (hm : X.mg "list" = none) (hg2 : Gl X "reversed") (hm2 : X.mg "reversed" = none) (he : PE X e te)
    (hs : starEach [e] X.env = (false, eval e X.env) :: starEach [] X.env := by rfl)
    (hs2 : starEach [.Call (.Name "reversed" p2) [e] [] pos2] X.env = (false, eval (.Call (.Name "reversed" p2) [e] [] pos2) X.env) :: starEach [] X.env := by rfl) :
    PE X (.Call (.Name "list" p) [.Call (.Name "reversed" p2) [e] [] pos2] [] pos) (tListRev X.K te) := by
  refine ⟨fun pins s σ H Q I h => ?_⟩
  refine Call_ (ld_blt I hg hm boot_list (PyProof.Rows.callWith_type1 (args_cons (Call_ (ld_blt I hg2 hm2 PyProof.Rows.boot_reversed (PyProof.Rows.callWith_type1 (args_cons (thn (he.run pins s σ H _ I h) fun u s1 ⟨v, H1, I1, r1, q1⟩ => args_nil ?_) hs) hs rfl))) hs2) hs2 rfl))
  obtain ⟨a, xs, ev, hq, q⟩ := q1
  subst ev
  obtain rfl : u = Value.ref a := r1
  obtain ⟨its, rv, p', hz⟩ := I1.tuple hq
  have hl := rv.length
  have hn := line63
  have hsz : its.toArray.size ≤ sizeLine := by rw [List.size_toArray, ← rv.length]; exact hz
  refine call_reversed_tup p' (fun A E Q k => PyProof.Rows.len_tuple p' (by simp only [List.size_toArray] <;> omega) k) (args_nil ?_)
  have k0 : ∀ b o, s1.heap.get? b = some o → (s1.heap.push (rtObj a ((its.toArray.size : Int) - 1))).get? b = some o := fun b o e => Heap.get?_push_of_some _ e
  have I2 : Inv X pins σ H1 { s1 with heap := s1.heap.push (rtObj a ((its.toArray.size : Int) - 1)), toks := s1.toks + 1 + 1 } := I1.kept (t' := s1.toks + 1 + 1) k0
  have fp := I1.fpOk (H' := H1) (b := s1.heap.objs.size) (Nat.le_refl _) (I1.hok.fresh (Nat.le_refl _))
  have hlt : a < s1.heap.objs.size := by
    obtain ⟨o, ho, _⟩ := p'
    exact Heap.lt_size ho
  have p2' : IsTup (s1.heap.push (rtObj a ((its.toArray.size : Int) - 1))) a its.toArray := by
    obtain ⟨o, ho, r⟩ := p'
    exact ⟨o, Heap.get?_push_of_some _ ho, r⟩
  refine call_list_rt (s := { s1 with heap := s1.heap.push (rtObj a ((its.toArray.size : Int) - 1)), toks := s1.toks + 1 + 1 }) (I1.ok.hd hc) ⟨_, Heap.get?_push_size _ rfl, rfl, rfl⟩ p2' (Nat.ne_of_lt hlt) hsz fun h' tk acc c' hk hS' hi => ?_
  have r' := RT.vals_rev rv hi
  refine ⟨.ref _, upd H1 _ (.lst xs.reverse), I2.turnedNew (t' := tk) (ch := [s1.heap.objs.size]) (fun b o hb e => hk b o (fun z => hb (List.mem_singleton.mpr z)) e) (fun b hb => by rw [List.mem_singleton.mp hb]; exact fp) (Nat.le_refl _)
    (show ObjOk X.prog X.w _ _ _ (.lst xs.reverse) from ⟨by rw [List.length_reverse]; exact hz, acc.toList, c', r', by rw [Array.toArray_toList]; exact hS'⟩), rfl, q _ (I2.hok.fresh (Nat.le_refl _))⟩
end
end L2
set_option Elab.async false
set_option linter.all false
set_option maxRecDepth 100000
set_option maxHeartbeats 2000000
/-! for x in reversed(a text) -/
namespace XR
open PySem PySem.Spec PyProof.Rows RT L2
theorem norev_str : typeLookup (.type "str") "__reversed__" = pure none := by rw [typeLookup_type, builtinLookup_eq_fast]; kernel_rfl
theorem get_str : typeLookup (.type "str") "__getitem__" = pure (some (.builtin "str.__getitem__")) := by rw [typeLookup_type, builtinLookup_eq_fast]; kernel_rfl
/-- reversed(z), the next place i -/
def IsRs (h : Heap) (a : Addr) (z : Str) (i : Int) : Prop := ∃ o t, h.get? a = some o ∧ o.cls = .type "reversed" ∧ o.data = .fields #[.str z t, rawInt i]
section
variable {prog : Program} {w : World} {A : Around} {E : Value → Shared → Prop} {s : Shared}
theorem IsRs.typeIs {a : Addr} {z : Str} {i : Int} (x : IsRs s.heap a z i) : s.TypeIs (.ref a) "reversed" := let ⟨o, _, ho, hc, _⟩ := x; ⟨o, ho, hc⟩
theorem code_rs {z : Str} {t : Tok} {Q₁ : Value → Shared → Prop} (hz : z.length ≤ sizeLine)
    (h : ∀ tk, Q₁ (.ref s.heap.objs.size) { s with heap := s.heap.push { cls := .type "reversed", data := .fields #[.str z t, rawInt ((z.length : Int) - 1)] }, toks := tk }) :
    codeAny (model prog w) A (.call (.builtin "reversed.__new__") ⟨[.type "reversed", .str z t], []⟩) (wants Q₁ E) s := by
  have hT : s.TypeIs (.str z t) "str" := typeIs_str s z t
  refine codeAny_of_tree ?_
  show wpAny _ A.in1 (do checkBuiltinCall "reversed.__new__" ⟨[.type "reversed", .str z t], []⟩; again (.builtin "reversed.__new__" ⟨[.type "reversed", .str z t], []⟩)) _ _ s
  refine wpAny_bind (wpAny_of_eq (F.newCall_reversed_1 _) (wpAny_pure ⟨plainId_quiet F.plain_reversed_new _, codeAny_builtin F.entry_reversed_new ?_⟩))
  rw [Around.under_plainId F.plain_reversed_new _]
  unfold Builtin.«reversed.__new__»
  refine wpAny_bind (wpAny_of_eq (newClass_reversed _) ?_)
  try dsimp only
  refine wpAny_bind (wpAny_of_eq (a := ()) (by first | rfl | kernel_rfl) ?_)
  try dsimp only
  refine wpAny_bind (wpAny_of_eq (a := ()) (by first | rfl | kernel_rfl) ?_)
  try dsimp only
  refine wpAny_bind (wpAny_specialOf hT norev_str ?_)
  try dsimp only
  refine wpAny_bind ?_
  wp_delta
  refine wpAny_bind (wpAny_isInstance (T := "str") (U := "dict") (b := false) hT PySem.F.sub_str_dict ?_)
  try dsimp only
  try rw [if_neg Bool.false_ne_true]
  try dsimp only
  refine wpAny_bind (wpAny_specialOf hT get_str ?_)
  try dsimp only
  try rw [if_pos (by decide +kernel)]
  refine wpAny_pure ?_
  try dsimp only
  try rw [if_neg (by decide)]
  try dsimp only
  refine wpAny_bind (len_str (by rw [sizeLine_eq] at hz; omega) ?_)
  refine wpAny_bind (wpAny_of_eq (a := some ((z.length : Nat) : Int)) rfl ?_)
  try dsimp only
  refine wpAny_bind ?_
  show wpAny _ _ (newObj (.type "reversed") (.fields #[.str z t, rawInt ((z.length : Int) - 1)])) _ _ _
  refine wpAny_newObj_type ?_
  exact wpAny_pure (h _)
theorem call_rs {z : Str} {t : Tok} {Q : Value → Shared → Prop} (hz : z.length ≤ sizeLine)
    (h : ∀ tk, Q (.ref s.heap.objs.size) { s with heap := s.heap.push { cls := .type "reversed", data := .fields #[.str z t, rawInt ((z.length : Int) - 1)] }, toks := tk }) : wpAny (model prog w) A (call (.type "reversed") [.str z t]) Q E s := by
  refine callType_codes (Q₁ := fun obj s₁ => s₁.TypeIs obj "reversed" ∧ Q obj s₁) called_rt (F.typeCall_reversed_1 _) F.entry_object_init
    (code_rs (A := A.in1) hz fun tk => ⟨⟨_, Heap.get?_push_size _ rfl, rfl⟩, h tk⟩) fun obj s₁ h₁ => ?_
  exact ⟨h₁.1, F.args_object_init_2 obj _, object_init_meets called_rt.init.lookup called_rt.made (by decide) prog w A.in1 _ s₁ ⟨h₁.1, rfl, h₁.2⟩⟩
theorem next_rs_item {it : Addr} {z : Str} {i : Nat} {c : Nat} {Q : Option Value → Shared → Prop} (hit : IsRs s.heap it z (i : Int)) (hx : z.cps[i]? = some c) (hsz : z.length ≤ sizeLine)
    (hQ : ∀ h' tk u, IsRs h' it z ((i : Int) - 1) → Heap.SameBut it s.heap h' → Q (some (.str ⟨#[c]⟩ u)) { s with heap := h', toks := tk }) : wpAny (model prog w) A (pyNext (.ref it)) Q E s := by
  obtain ⟨o, t, ho, hc, hd⟩ := id hit
  have hi : i < z.length := (Array.getElem?_eq_some_iff.mp hx).1
  have hT : s.TypeIs (.str z t) "str" := typeIs_str s z t
  rw [sizeLine_eq] at hsz
  unfold pyNext
  refine wpAny_bind (wpAny_attempt (wpAny_callSpecial?_slot (name := Str.ofString "__next__") hit.typeIs slot_rt_next
    (wpAny_call_entry slot_rt_next hit.typeIs entry_rt_next ?_ (args_rt_next _))))
  unfold Builtin.«reversed.__next__»
  refine wpAny_bind (wpAny_of_eq (a := (Value.ref it, [])) rfl ?_)
  try dsimp only
  refine wpAny_bind (wpAny_field ho hd (x := .str z t) rfl ?_)
  try dsimp only
  refine wpAny_bind (wpAny_field ho hd (x := rawInt (i : Int)) rfl ?_)
  show wpAny _ _ (if (i : Int) < 0 then _ else _) _ _ s
  rw [if_neg (by omega)]
  try dsimp only
  refine wpAny_bind (wpAny_specialOf hT get_str ?_)
  try dsimp only
  try rw [if_neg (by decide)]
  try dsimp only
  refine wpAny_bind (wpAny_mkInt ?_)
  refine wpAny_bind (wpAny_attempt ?_)
  have fin : seqIndex? (i : Int) z.length = some i := seqIndex_of (by omega) (by omega)
  refine PyProof.Rows.getItem_str (s := { s with toks := s.toks + 1 }) (c := c) (by simp; omega) (by rw [fin]; exact hx) ?_
  try dsimp only
  refine wpAny_bind (wpAny_field (s := { s with toks := s.toks + 1 + 1 }) ho hd (x := rawInt (i : Int)) rfl ?_)
  try dsimp only
  refine wpAny_bind (wpAny_setField (s := { s with toks := s.toks + 1 + 1 }) ho hd (by simp) ?_)
  first
  | refine wpAny_pure ⟨_, rfl, wpAny_pure (hQ _ _ _ ?_ (Heap.SameBut.update ..))⟩
  | refine wpAny_bind (wpAny_pure (wpAny_pure ⟨_, rfl, wpAny_pure (hQ _ _ _ ?_ (Heap.SameBut.update ..))⟩))
  exact ⟨_, t, Heap.get?_update_self _ ho (Obj.isFreed_of_fields (Obj.data_mapFields hd _)), (Obj.cls_mapFields ..).trans hc, by
    rw [Obj.data_mapFields hd]; simp⟩
theorem next_rs_end {it : Addr} {z : Str} {Q : Option Value → Shared → Prop} (hh : A.handled = none) (hit : IsRs s.heap it z (-1))
    (hQ : ∀ h', Heap.ExtBut it s.heap h' → Q none { s with heap := h' }) : wpAny (model prog w) A (pyNext (.ref it)) Q E s := by
  obtain ⟨o, t, ho, hc, hd⟩ := id hit
  unfold pyNext
  refine wpAny_bind (wpAny_attempt (wpAny_callSpecial?_slot (name := Str.ofString "__next__") hit.typeIs slot_rt_next
    (wpAny_call_entry slot_rt_next hit.typeIs entry_rt_next ?_ (args_rt_next _))))
  unfold Builtin.«reversed.__next__»
  refine wpAny_bind (wpAny_of_eq (a := (Value.ref it, [])) rfl ?_)
  try dsimp only
  refine wpAny_bind (wpAny_field ho hd (x := .str z t) rfl ?_)
  try dsimp only
  refine wpAny_bind (wpAny_field ho hd (x := rawInt (-1)) rfl ?_)
  show wpAny _ _ (if (-1 : Int) < 0 then _ else _) _ _ s
  rw [if_pos (by decide)]
  try dsimp only
  refine wpAny_bind (wpAny_rule ?_)
  refine wpAny_bind ?_
  wp_delta
  refine wpAny_bind (wpAny_setField ho hd (by simp) ?_)
  have ho2 := Heap.get?_update_self (Obj.mapFields (·.setIfInBounds 1 (rawInt (-1)))) ho (Obj.isFreed_of_fields (Obj.data_mapFields hd _))
  refine wpAny_setField (s := { s with heap := s.heap.update it (Obj.mapFields (·.setIfInBounds 1 (rawInt (-1)))) }) ho2 (Obj.data_mapFields hd _) (by simp) ?_
  try dsimp only
  first
  | show wpAny _ _ (newExc (.type "StopIteration") [] >>= _) _ _ _
  | (refine wpAny_bind ?_; show wpAny _ _ (newExc (.type "StopIteration") [] >>= _) _ _ _)
  | (refine wpAny_bind ?_; wp_delta; show wpAny _ _ (newExc (.type "StopIteration") [] >>= _) _ _ _)
  refine wpAny_bind ?_
  simp only [newExc, newTuple]
  refine wpAny_bind (wpAny_newObj_type ?_ (by size_fits))
  refine wpAny_bind (m := firstArgMember _ _) (wpAny_of_eq (a := Value.none) (by first | rfl | (simp only [firstArgMember]; rfl)) ?_)
  refine wpAny_newObj_type ?_ (by size_fits)
  simp only [raiseNew]
  refine wpAny_bind (wpAny_handled ?_)
  first | rw [show A.in1.handled = none from hh] | rw [hh]
  refine wpAny_bind (wpAny_pure (wpAny_throw ?_))
  refine wpAny_bind (wpAny_isInstance (T := "StopIteration") (b := true) ⟨_, Heap.get?_push_size _ rfl, rfl⟩ isSubtype_stop ?_)
  refine wpAny_pure (hQ _ ?_)
  refine ((?_ : Heap.ExtBut it s.heap _).push _).push _
  exact fun b ob hb e => (Heap.get?_update_other _ _ (Ne.symm hb)).trans ((Heap.get?_update_other _ _ (Ne.symm hb)).trans e)
theorem iter_rs {it : Addr} {z : Str} {i : Int} {Q : Value → Shared → Prop} (hit : IsRs s.heap it z i) (h : Q (.ref it) s) : wpAny (model prog w) A (pyIter (.ref it)) Q E s := by
  refine wpAny_pyIter_slot hit.typeIs slot_rt_iter (wpAny_call_entry slot_rt_iter hit.typeIs entry_rt_iter ?_ (args_rt_iter _))
  show wpAny _ _ (ret (.ref it)) _ _ s
  exact wpAny_pure ⟨_, rfl, "reversed", _, hit.typeIs, slot_rt_next.lookup, h⟩
end
/-- the signs of z from its end -/
def ItvS (z : Str) : It := ⟨fun i _ => i < z.length, fun i H x H' => H' = H ∧ ∃ c, z.cps[z.length - 1 - i]? = some c ∧ x = .str ⟨#[c]⟩, fun i _ => z.length ≤ i⟩
theorem turn_rs {P : Program} {w : World} {K : PySem.W.Frag} {tg : Expr} (it : Addr) (z : Str) (hz : z.length ≤ sizeLine) : Turn P w K tg (ItvS z) [it] it (fun i h => i ≤ z.length ∧ IsRs h it z ((z.length : Int) - 1 - (i : Nat))) where
  mem := by simp
  obj := fun i h st b hb => by
    have e : b = it := by simpa using hb
    subst e
    obtain ⟨_, o, t, e, c, d⟩ := st
    exact ⟨o, e, fun v z => by rw [d] at z; cases z⟩
  keep := fun i h h' st k => let ⟨a, o, t, e, r⟩ := st; ⟨a, o, t, k it (by simp) o e, r⟩
  item := by
    intro X hP hw hK hc i pins s σ H E I hf st hg
    subst hP hw hK
    have hin : i < z.length := hg
    obtain ⟨c, hcx⟩ : ∃ c, z.cps[z.length - 1 - i]? = some c := ⟨_, Array.getElem?_eq_getElem (show z.length - 1 - i < z.cps.size by have : z.length = z.cps.size := rfl; omega)⟩
    obtain ⟨f0, f1, f2, f3, f4, f5⟩ := hf it (by simp)
    obtain ⟨_, hit⟩ := st
    have e1 : (z.length : Int) - 1 - ((i : Nat) : Int) = ((z.length - 1 - i : Nat) : Int) := by omega
    rw [e1] at hit
    refine next_rs_item hit hcx hz fun h' tk u st' sb => ?_
    have e2 : ((z.length - 1 - i : Nat) : Int) - 1 = (z.length : Int) - 1 - ((i + 1 : Nat) : Int) := by omega
    rw [e2] at st'
    have I1 : Inv X pins σ H { s with heap := h', toks := tk } := I.turned (t' := tk) (fun b o hb e => (sb.2 b hb).trans e) f0 f1 f3 f4 f5
    obtain ⟨o, t, e, c', d⟩ := id st'
    exact ⟨_, rfl, go_of (s := { s with heap := h', toks := tk }) e c' d (by decide) ⟨.str ⟨#[c]⟩, H, I1, ⟨u, rfl⟩, ⟨rfl, c, hcx, rfl⟩, ⟨hin, st'⟩, fun b hb => (hf b hb).1⟩⟩
  done := by
    intro X hP hw hK hc i pins s σ H E I hf st hg
    subst hP hw hK
    obtain ⟨f0, f1, f2, f3, f4, f5⟩ := hf it (by simp)
    obtain ⟨hin, hit⟩ := st
    have hge : z.length ≤ i := hg
    have e1 : (z.length : Int) - 1 - ((i : Nat) : Int) = -1 := by omega
    rw [e1] at hit
    exact next_rs_end (I.ok.hd hc) hit fun h' eb => ⟨rfl, I.turned (t' := s.toks) (fun b o hb e => eb b o hb e) f0 f1 f3 f4 f5⟩
  self := fun A i s Q E st h => iter_rs st.2 h
/-- reversed(z), z a text -/
def iRevS (te : TE) : TI := fun σ H R => te σ H fun v H1 => ∃ z : Str, v = .str z ∧ z.length ≤ sizeLine ∧ R (ItvS z) H1
section
variable {X : Cx} {tg : Expr}
theorem pi_revS {e : Expr} {te : TE} {p pos : Pos} (hg : Gl X "reversed") (hm : X.mg "reversed" = none) (he : PE X e te) (hs : starEach [e] X.env = (false, eval e X.env) :: starEach [] X.env := by rfl) : PI X tg (.Call (.Name "reversed" p) [e] [] pos) (iRevS te) := by
  refine ⟨fun pins s σ H R I h => ?_⟩
  refine Call_ (ld_blt I hg hm PyProof.Rows.boot_reversed (PyProof.Rows.callWith_type1 (args_cons (thn (he.run pins s σ H _ I h) fun u s1 ⟨v, H1, I1, r1, q1⟩ => args_nil ?_) hs) hs rfl))
  obtain ⟨z, ev, hz, q⟩ := q1
  subst ev
  obtain ⟨t, rfl⟩ := r1
  refine call_rs hz fun tk => iter_rs (z := z) (i := (z.length : Int) - 1) ⟨_, t, Heap.get?_push_size _ rfl, rfl, rfl⟩ ?_
  refine pi_one (tk := tk) I1 _ (turn_rs _ z hz) ⟨Nat.zero_le _, ?_⟩ q
  exact ⟨_, t, Heap.get?_push_size _ rfl, rfl, by simp⟩
end
/-- the loop -/
theorem for_revS {z : Str} {g : TG} {tb : TS} {D : Ends} {σ : L2.St} {H : Hp} (Pv : Nat → L2.St → Hp → Prop) (h0 : Pv 0 σ H)
    (hs : ∀ i c σ H, i < z.length → z.cps[z.length - 1 - i]? = some c → Pv i σ H → g (.str ⟨#[c]⟩) σ H fun σ2 H2 => tb { D with nx := Pv (i + 1), ct := Pv (i + 1), bk := D.nx } σ2 H2) (hd : ∀ σ H, Pv z.length σ H → D.nx σ H) :
    ∃ W : Nat → Nat → L2.St → Hp → Prop, (∃ m, W 0 m σ H) ∧ ∀ i m σ H, W i m σ H →
      ((ItvS z).stop i H ∧ D.nx σ H) ∨ ((ItvS z).go i H ∧ ∃ N : L2.St → Hp → Prop, (∀ σ' H', N σ' H' → ∃ m', m' < m ∧ W (i + 1) m' σ' H') ∧ ∀ x H', (ItvS z).yld i H x H' → g x σ H' fun σ2 H2 => tb { D with nx := N, ct := N, bk := D.nx } σ2 H2) := by
  refine ⟨fun i m σ H => m = z.length - i ∧ i ≤ z.length ∧ Pv i σ H, ⟨z.length, by simp, Nat.zero_le _, h0⟩, ?_⟩
  rintro i m σ H ⟨rfl, hi, p⟩
  by_cases hlt : i < z.length
  · refine .inr ⟨hlt, Pv (i + 1), fun σ' H' p' => ⟨z.length - (i + 1), by omega, rfl, hlt, p'⟩, fun x H' y => ?_⟩
    obtain ⟨e, c, hc, rfl⟩ := y
    subst e
    exact hs i c σ _ hlt hc p
  · have e : i = z.length := by omega
    subst e
    exact .inl ⟨Nat.le_refl _, hd σ H p⟩
end XR
set_option Elab.async false
set_option linter.all false
set_option maxRecDepth 100000
set_option maxHeartbeats 2000000
/-! xs.extend(a tuple) -/
namespace XE
open PySem PySem.Spec PyProof.Rows L2
theorem ext_tup (l : Addr) (items : Array Value) (n : Nat) (b : Addr) (items2 : Array Value) (n2 : Nat) (d2 : Option Addr) (sl2 : Array (Option Value)) (hs0 : ¬(!items.isEmpty && Builtin.List.listTooLong (items.size + items2.size)) = true) (hs1 : items.size ≤ sizeLine) (hs2 : items.size + items2.size ≤ sizeLine + 1) :
    Meets (Builtin.«list.extend» ⟨[.ref l, .ref b], []⟩) (fun _ R s => s.heap.get? l = some { cls := .type "list", dict := none, data := .seq items n, slots := #[] } ∧ s.heap.get? b = some { cls := .type "tuple", dict := d2, data := .seq items2 n2, slots := sl2 } ∧ R (.ok (.ret Value.none)) { s with heap := s.heap.update l (Obj.mapSeq fun x => x ++ items2) }) :=
  .of_wp fun prog w A R s h => by
    obtain ⟨hp, g, d, tk, os⟩ := s
    obtain ⟨hl, hb, h⟩ := h
    have q1 := AutoSeq1.idx_int
    have q2 := AutoSeq1.sub_tuple_tuple
    have q3 := AutoSeq1.sub_list_list
    have q4 := AutoSeq1.sub_tuple_list
    have q5 := AutoSeq1.sub_list_tuple
    have hz' : (items ++ items2).size ≤ sizeLine + 1 := by rw [Array.size_append]; exact hs2
    wp_walk using (wpAny_updateSeq hl rfl (hz := hs1) (_hz' := hz')), AutoSeq1.wpAny_loadPart' hl, AutoSeq1.wpAny_loadPart' hb; exact ⟨_, rfl, h⟩
end XE
namespace L2
open PySem PySem.Spec PyProof.Rows
section
variable {X : Cx}
/-- xs.extend(t), t a tuple -/
def rExtendT (K : PySem.W.Frag) : V → List V → Hp → VK → Prop := fun x vs H Q => ∃ l b xs zs, x = .ref l ∧ vs = [.ref b] ∧ H l = some (.lst xs) ∧ SqT K H b zs ∧ xs.length + zs.length ≤ sizeLine ∧ Q .non (upd H l (.lst (xs ++ zs)))
theorem mt_extendT : MtM X "list.extend" (rExtendT X.K) := by
  intro pins s σ H x vs v us Q I rx rv h
  obtain ⟨l, b, xs, zs, rfl, rfl, hH, hB, hz, q⟩ := h
  cases rx
  obtain ⟨u, rfl, ru⟩ := rv.one
  cases ru
  obtain ⟨z, its, n, r, hl, e⟩ := I.lstM hH
  obtain ⟨its2, r2, ⟨⟨oc, od, odt, osl⟩, e2, hc, n2, hd⟩, z2⟩ := I.tuple hB
  dsimp only at hc hd
  subst hc hd
  have hl2 := r2.length
  have hsz : its.toArray.size + its2.toArray.size ≤ sizeLine := by rw [List.size_toArray, List.size_toArray]; omega
  have hlong : ¬ (!its.toArray.isEmpty && Builtin.List.listTooLong (its.toArray.size + its2.toArray.size)) = true := by
    rw [notLongL hsz, Bool.and_false]
    exact Bool.false_ne_true
  refine call_meets F.slot_list_extend ⟨_, e, rfl⟩ F.entry_list_extend (F.args_list_extend_2 _ _)
    (XE.ext_tup l its.toArray n b its2.toArray n2 od osl hlong (by rw [List.size_toArray]; omega) (by omega)) ⟨e, e2, ?_⟩
  refine ⟨.non, _, I.lset (t' := s.toks) (its' := its ++ its2) hH e (by simp) (r.append r2) ?_, rfl, q⟩
  rw [List.length_append]
  omega
end
end L2
set_option Elab.async false
set_option linter.all false
set_option maxRecDepth 100000
set_option maxHeartbeats 2000000
/-! sorted(xs), xs a list of tuples of ints of any lengths, the first of them () -/
namespace XT
open PySem PySem.Spec PyProof.Rows L2 SrtO
/-- at t stands a tuple of these ints -/
def TI (h : Heap) (v : Value) (ns : List Int) : Prop := ∃ a xs, v = .ref a ∧ IsTup h a xs ∧ IntsAre xs.toList ns
theorem TI.keeps {h h' : Heap} {v : Value} {ns : List Int} (x : TI h v ns) (k : ∀ b o, h.get? b = some o → o.cls = .type "tuple" → h'.get? b = some o) : TI h' v ns := by
  obtain ⟨a, xs, e, ⟨o, ho, hc, hd⟩, i⟩ := x
  exact ⟨a, xs, e, ⟨o, k _ _ ho hc, hc, hd⟩, i⟩
theorem lex_irr : ∀ a : List Int, HT.lexLt a a = false
  | [] => rfl
  | x :: r => by rw [HT.lexLt_cons, if_pos rfl, lex_irr r]
theorem lex_asym : ∀ a b : List Int, HT.lexLt a b = true → HT.lexLt b a = false
  | [], [], h => by cases h
  | [], _ :: _, _ => rfl
  | _ :: _, [], h => by cases h
  | x :: r, y :: q, h => by
    rw [HT.lexLt_cons] at h ⊢
    by_cases e : x = y
    · rw [if_pos e] at h
      rw [if_pos e.symm]
      exact lex_asym r q h
    · rw [if_neg e] at h
      rw [if_neg fun z => e z.symm]
      have := of_decide_eq_true h
      exact decide_eq_false (by omega)
theorem lex_neg : ∀ a b c : List Int, HT.lexLt b a = false → HT.lexLt c b = false → HT.lexLt c a = false
  | [], b, [], _, _ => rfl
  | [], b, z :: s, _, _ => rfl
  | x :: r, [], c, h, _ => by cases h
  | x :: r, y :: q, [], _, h => by cases h
  | x :: r, y :: q, z :: s, h1, h2 => by
    rw [HT.lexLt_cons] at h1 h2 ⊢
    by_cases e1 : y = x
    · rw [if_pos e1] at h1
      by_cases e2 : z = y
      · rw [if_pos e2] at h2
        rw [if_pos (e2.trans e1)]
        exact lex_neg r q s h1 h2
      · rw [if_neg e2] at h2
        rw [if_neg fun w => e2 (w.trans e1.symm)]
        have := of_decide_eq_false h2
        exact decide_eq_false (by omega)
    · rw [if_neg e1] at h1
      have g1 := of_decide_eq_false h1
      by_cases e2 : z = y
      · rw [if_pos e2] at h2
        rw [if_neg fun w => e1 (e2.symm.trans w)]
        exact decide_eq_false (by omega)
      · rw [if_neg e2] at h2
        have g2 := of_decide_eq_false h2
        by_cases e3 : z = x
        · omega
        · rw [if_neg e3]
          exact decide_eq_false (by omega)
theorem swo_ti {α : Type} (k : α → List Int) : Swo fun v u => HT.lexLt (k v) (k u) := by
  refine ⟨fun x y h => lex_asym _ _ h, fun x y z h1 h2 => ?_⟩
  exact lex_neg _ _ _ h1 h2
section
variable {prog : Program} {w : World} {A : Around} {E : Value → Shared → Prop} {s : Shared}
theorem one_ti {v u : Value} {ns ms : List Int} {Q : Bool → Shared → Prop} (h1 : TI s.heap v ns) (h2 : TI s.heap u ms) (hu : A.units < cLine) (h : Q (HT.lexLt ns ms) s) : wpAny (model prog w) A (oneLt' true v u) Q E s := by
  obtain ⟨a, xs, rfl, ⟨⟨c1, d1, dt1, sl1⟩, ho, hc, n, hd⟩, i⟩ := h1
  obtain ⟨b, ys, rfl, ⟨⟨c2, d2, dt2, sl2⟩, ho2, hc2, n2, hd2⟩, j⟩ := h2
  simp only at hc hd hc2 hd2
  subst hc hd hc2 hd2
  rw [oneLt'_eq]
  simp only [if_true]
  refine wpAny_bind (wpAny_cRoomFor hu ?_)
  refine wpAny_bind (wpAny_callSpecialIfBound?_slot (name := Str.ofString "__lt__") ⟨_, ho, rfl⟩ PySem.F.slot_tuple_lt (call_meets PySem.F.slot_tuple_lt ⟨_, ho, rfl⟩ PySem.F.entry_tuple_lt (PySem.F.args_tuple_lt_2 _ _) (HT.tuple_lt_ints a b xs ys n n2 d1 d2 sl1 sl2 ns ms i j) ⟨ho, ho2, ?_⟩))
  exact wpAny_truthy_bool h
theorem cmp_ti {vs : List Value} {k : Value → List Int} (hu : A.units < cLine) (hp : ∀ v ∈ vs, TI s.heap v (k v)) : Cmp prog w A s oneType' (fun p => p.1 ∈ vs) (lt2 fun v u => HT.lexLt (k v) (k u)) := by
  intro p q hm hm'
  rw [keyLt'_oneType]
  exact one_ti (hp _ hm) (hp _ hm') hu ⟨rfl, rfl⟩
theorem firsts_ti : ∀ (vs : List Value) (nss : List (List Int)) {Q : List (Option Value) → Shared → Prop}, (∀ (i : Nat) (v : Value) (ns : List Int), vs[i]? = some v → nss[i]? = some ns → TI s.heap v ns) → vs.length = nss.length →
    (∀ fs : List (Option Value), fs.length = vs.length → (∀ ns r, nss = ns :: r → ns = [] → ∃ q, fs = none :: q) → Q fs s) → wpAny (model prog w) A (vs.mapM firstOfTuple') Q E s
  | [], [], Q, _, _, h => by
    rw [List.mapM_nil]
    exact wpAny_pure (h [] rfl fun ns r e => by cases e)
  | [], _ :: _, _, _, hl, _ => by cases hl
  | _ :: _, [], _, _, hl, _ => by cases hl
  | v :: vs, ns :: nss, Q, hx, hl, h => by
    obtain ⟨a, xs, rfl, ⟨o, ho, hc, n, hd⟩, i⟩ := hx 0 v ns rfl rfl
    rw [List.mapM_cons]
    refine wpAny_bind ?_
    rw [PySem.W.kas_first_eq]
    refine wpAny_bind (PySem.W.Looks.here (show PySem.W.Looks (model prog w) s.heap (typeOf (.ref a)) o.cls from (PySem.W.Looks.ld ho).andThen .now) ?_)
    rw [hc, if_neg (by first | decide | simp)]
    refine wpAny_bind (listItems_at ho hd (wpAny_pure ?_))
    refine wpAny_bind (firsts_ti vs nss (fun i v ns e1 e2 => hx (i + 1) v ns e1 e2) (by simpa using hl) fun fs hf _ => wpAny_pure (h (xs[0]? :: fs) (by simp [hf]) fun ns' r' e e0 => ?_))
    injection e with e1 e2
    subst e1
    rw [e0] at i
    refine ⟨fs, ?_⟩
    have : xs.toList.length = 0 := i.length
    have hz : xs[0]? = none := Array.getElem?_eq_none (by rw [Array.length_toList] at this; omega)
    rw [hz]
theorem kind_ti {v0 : Value} {vs : List Value} {k : Value → List Int} {Q : SortKind → Shared → Prop} (hp : ∀ v ∈ v0 :: vs, TI s.heap v (k v)) (h0 : k v0 = []) (h : Q oneType' s) : wpAny (model prog w) A (keyKind' (v0 :: vs).toArray) Q E s := by
  rw [kat_kind_eq, List.mapM_toArray, map_eq_pure_bind]
  refine wpAny_bind (wpAny_bind (firsts_ti (v0 :: vs) ((v0 :: vs).map k) (fun i v ns e1 e2 => ?_) (by simp) fun fs hf h1 => wpAny_pure ?_))
  · rw [List.getElem?_map, e1] at e2
    obtain rfl : k v = ns := Option.some.inj e2
    exact hp v (List.mem_of_getElem? e1)
  · obtain ⟨q, rfl⟩ := h1 (k v0) (vs.map k) rfl h0
    have a1 : ((none :: q : List (Option Value)).toArray.all fun x => x.isSome) = false := by simp
    rw [a1, if_neg Bool.false_ne_true]
    have a2 : (((none :: q : List (Option Value)).toArray[0]?).bind id).isSome = false := by simp
    rw [a2, if_neg Bool.false_ne_true]
    rw [oneTypeOnly'_eq, List.mapM_toArray, map_eq_pure_bind]
    refine wpAny_bind (wpAny_bind (wpAny_bind (PySem.W.kas_mapM (r := Value.type "tuple") _ (fun v hv Q' hq => ?_) (wpAny_pure ?_))))
    · obtain ⟨a, xs, rfl, ⟨o, ho, hc, n, hd⟩, i⟩ := hp v hv
      refine PySem.W.Looks.here (show PySem.W.Looks (model prog w) s.heap (typeOf (.ref a)) o.cls from (PySem.W.Looks.ld ho).andThen .now) ?_
      rw [hc]
      exact hq
    · have a3 : ((List.map (fun _ => Value.type "tuple") (v0 :: vs)).toArray.all fun x => x == Value.type "tuple") = true := by
        simp
      have a4 : (List.map (fun _ => Value.type "tuple") (v0 :: vs)).toArray[0]? = some (Value.type "tuple") := by simp
      rw [a4]
      try dsimp only
      rw [a3, if_pos rfl]
      exact wpAny_pure (wpAny_pure h)
theorem sortable_ti {a : Addr} {vs : List Value} {k : Value → List Int} (hu : A.units < cLine) (hp : ∀ v ∈ vs, TI s.heap v (k v)) (h0 : ∃ v0 r, vs = v0 :: r ∧ k v0 = []) (ha : ∀ o, s.heap.get? a = some o → o.cls ≠ .type "tuple") : SortableO prog w A s a vs fun v u => HT.lexLt (k v) (k u) := by
  intro h' keep
  have hp' : ∀ v ∈ vs, TI h' v (k v) := fun v hm => (hp v hm).keeps fun b o e c => keep b o (fun z => by subst z; exact ha o e c) e
  obtain ⟨v0, r, rfl, e0⟩ := h0
  exact ⟨oneType', fun Q E hq => kind_ti (s := { s with heap := h' }) hp' e0 hq, cmp_ti (s := { s with heap := h' }) hu hp'⟩
end
end XT
namespace L2
open PySem PySem.Spec PyProof.Rows
/-- sorted(xs), xs a list of tuples of ints, the first of them (): a new list, sorted, equal ones in their order -/
def rSortTI (K : PySem.W.Frag) : List V → Hp → VK → Prop := fun vs H Q => ∃ (a : Addr) (xs : List V) (k : V → List Int), vs = [V.ref a] ∧ SqL K H a xs ∧ (∀ x ∈ xs, ∃ t, x = V.ref t ∧ H t = some (.tup ((k x).map V.int))) ∧ (∀ x0 r, xs = x0 :: r → k x0 = []) ∧
  ∀ ys p, SrtO.Srtd (fun x y => HT.lexLt (k x) (k y)) ys → SrtO.Stb (fun x y => HT.lexLt (k x) (k y)) ys xs → H p = none → Q (.ref p) (upd H p (.lst ys))
section
variable {X : Cx}
theorem cr_sortTI (hu : X.A.in1.in1.units < cLine) : CallR X (.builtin "sorted") (rSortTI X.K) := by
  intro pins s σ H vs us Q I r h
  obtain ⟨a, xs, k, rfl, hs, hx, h0, q⟩ := h
  obtain ⟨its, rv, hl, hz⟩ := I.list hs
  obtain ⟨u, rfl, ru⟩ := vals1 r
  obtain rfl : u = Value.ref a := ru
  obtain ⟨e1, e2⟩ := refs_back rv fun x m => by
    obtain ⟨t, e, _⟩ := hx x m
    exact ⟨t, e⟩
  have ti : ∀ v ∈ its, XT.TI s.heap v (k (backV v)) := fun v hv => by
    obtain ⟨t, rfl⟩ := e2 v hv
    have hm : V.ref t ∈ xs := by rw [e1]; exact List.mem_map.mpr ⟨_, hv, rfl⟩
    obtain ⟨t', e, ht⟩ := hx _ hm
    cases e
    obtain ⟨its2, r2, p2, _⟩ := I.tuple (SqT.of ht)
    exact ⟨t, its2.toArray, rfl, p2, intsAre_of r2⟩
  refine SrtO.sorted_ord (XT.swo_ti fun u => k (backV u)) hl.isList (by rw [← rv.length]; exact hz) (fun h2 h₁ a' ha kk => ?_) fun out h1 h2 => ?_
  · refine XT.sortable_ti (s := { s with heap := h₁ }) hu (fun v hm => (ti v hm).keeps fun b o e _ => (kk b o e).2) ?_ fun o e => ?_
    · cases its with
      | nil => simp at h2
      | cons v0 r => exact ⟨v0, r, rfl, h0 (backV v0) (r.map backV) e1⟩
    · have e' : some o = some (seqObj "list" its.toArray 0) := e.symm.trans ha
      cases e'
      intro c
      exact absurd (Value.type.inj c) (by decide)
  · have h3 : ∀ u ∈ out, ∃ a, u = Value.ref a := fun u hu => e2 u (h2.perm.mem_iff.mp hu)
    obtain ⟨n, hn⟩ := PyProof.Rows.sortedAll_at s.heap its out.toArray
    have hb : SrtO.Stb (fun x y => HT.lexLt (k x) (k y)) (out.map backV) xs := by
      rw [e1]
      exact SrtO.Stb.map (XT.swo_ti k) backV h2
    refine ⟨.ref (s.heap.objs.size + 1), upd H (s.heap.objs.size + 1) (.lst (out.map backV)), I.laid (t' := s.toks) (fun b o e => PyProof.Rows.sortedAll_old e) (Nat.le_succ _) ⟨?_, out, n, vals_back h3, hn⟩, rfl, q _ _ (SrtO.srtd_map h1) hb (I.hok.fresh (Nat.le_succ _))⟩
    rw [hb.len]
    exact hz
end
end L2
namespace L2
theorem in2_units {k : Nat} {A : PySem.Around} (hr : Room k A) : A.in1.in1.units < PySem.cLine := by
  have := hr.units
  show A.units + 1 + 1 < PySem.cLine
  omega
end L2
set_option Elab.async false
set_option linter.all false
set_option maxRecDepth 100000
set_option maxHeartbeats 1000000
/-! list(zip(t, xs)), t a tuple, xs a list -/
namespace XZ
open PySem PySem.Spec PyProof.Rows RZ
abbrev IsZ (h : Heap) (z TI TO : Addr) (f0 : Value) (b : Bool) : Prop :=
  h.get? z = some { cls := .type "zip", dict := none, data := .fields #[f0, .bool b, .bool false, .ref TI, .ref TO], slots := #[] }
section
variable {prog : Program} {w : World} {A : Around} {E : Value → Shared → Prop} {s : Shared}
/-- the first one: the zip's own tuple is free -/
theorem next_free {z TI TO i1 i2 l1 l2 : Addr} {k1 k2 : Nat} {xs ys : Array Value} {x y a b : Value} {Q : Value → Shared → Prop} (D : ZipApart z TI TO i1 i2 l1 l2)
    (hz : IsZ s.heap z TI TO .none false) (hTI : IsPair s.heap TI (.ref i1) (.ref i2)) (hTO : IsPair s.heap TO a b)
    (h1 : s.heap.IsTupleIter i1 l1 k1) (h2 : s.heap.IsListIter i2 l2 k2) (hl1 : s.heap.IsTuple l1 xs) (hl2 : s.heap.IsList l2 ys) (hx : xs[k1]? = some x) (hy : ys[k2]? = some y)
    (hQ : ∀ h', IsZ h' z TI TO (rawInt s.heap.objs.size) false → IsPair h' TO x y → h'.IsTupleIter i1 l1 (k1 + 1) → h'.IsListIter i2 l2 (k2 + 1) → IsPair h' s.heap.objs.size x y →
      (∀ c o, c ≠ z → c ≠ TO → c ≠ i1 → c ≠ i2 → s.heap.get? c = some o → h'.get? c = some o) → Q (.ref s.heap.objs.size) { s with heap := h' }) :
    wpAny (model prog w) A (Builtin.«zip.__next__» ⟨[.ref z], []⟩) (fun fin s' => ∃ v, fin = .done (.ret v) ∧ Q v s') E s := by
  show wpAny _ _ (field (.ref z) 2 >>= _) _ _ _
  refine wpAny_bind (wpAny_field hz rfl (x := .bool false) rfl ?_)
  show wpAny _ _ (field (.ref z) 3 >>= _) _ _ _
  refine wpAny_bind (wpAny_field hz rfl (x := .ref TI) rfl ?_)
  refine wpAny_bind (wpAny_seqItems hTI rfl ?_)
  show wpAny _ _ (Builtin.SmallTypes.ownedTupleIsFree (.ref z) >>= _) _ _ _
  refine wpAny_bind ?_
  unfold Builtin.SmallTypes.ownedTupleIsFree
  refine wpAny_bind (wpAny_field hz rfl (x := .none) rfl (wpAny_pure ?_))
  simp only [if_true]
  refine wpAny_bind (wpAny_rule ?_)
  refine wpAny_bind (wpAny_field hz rfl (x := .ref TO) rfl ?_)
  refine wpAny_bind (wpAny_setField_rec hz (by simp) fun h₁ hz₁ hs₁ => ?_)
  replace hz₁ : IsZ h₁ z TI TO .ellipsis false := hz₁
  refine wpAny_bind ?_
  simp only [List.zipIdx_cons, List.zipIdx_nil, List.forIn_cons, List.forIn_nil]
  refine wpAny_bind (wpAny_bind (wpAny_onRaise ?_))
  show wpAny _ _ (Builtin.SmallTypes.nextOf (.ref i1) >>= _) _ _ _
  refine wpAny_bind (nextOf_tuple_item (h1.extBut hs₁.extBut D.i1z) (hl1.extBut hs₁.extBut D.l1z) hx fun h₂ h1₂ hs₂ => wpAny_pure ?_)
  have hTO₂ : IsPair h₂ TO a b := hs₂.extBut _ _ D.TOi1 (hs₁.extBut _ _ D.TOz hTO)
  refine wpAny_bind (wpAny_seqItems hTO₂ rfl ?_)
  refine wpAny_bind (wpAny_updateSeq_pair hTO₂ fun h₃ hTO₃ hs₃ => ?_)
  replace hTO₃ : IsPair h₃ TO x b := hTO₃
  refine wpAny_bind (wpAny_letGo (wpAny_pure ?_))
  refine wpAny_bind (wpAny_bind (wpAny_onRaise ?_))
  show wpAny _ _ (Builtin.SmallTypes.nextOf (.ref i2) >>= _) _ _ _
  refine wpAny_bind (wpAny_nextOf_list_item (((h2.extBut hs₁.extBut D.i2z).extBut hs₂.extBut D.i12.symm).extBut hs₃.extBut D.TOi2.symm)
    (((hl2.extBut hs₁.extBut D.l2z).extBut hs₂.extBut D.l2i1).extBut hs₃.extBut D.l2TO) hy fun h₄ h2₄ hs₄ => wpAny_pure ?_)
  have hTO₄ : IsPair h₄ TO x b := hs₄.extBut _ _ D.TOi2 hTO₃
  refine wpAny_bind (wpAny_seqItems hTO₄ rfl ?_)
  refine wpAny_bind (wpAny_updateSeq_pair hTO₄ fun h₅ hTO₅ hs₅ => ?_)
  replace hTO₅ : IsPair h₅ TO x y := hTO₅
  refine wpAny_bind (wpAny_letGo (wpAny_pure (wpAny_pure ?_)))
  refine wpAny_bind (wpAny_seqItems hTO₅ rfl ?_)
  refine wpAny_bind (wpAny_newTuple ?_)
  have hsz : h₅.objs.size = s.heap.objs.size := by rw [hs₅.1, hs₄.1, hs₃.1, hs₂.1, hs₁.1]
  have hz₅ : IsZ h₅ z TI TO .ellipsis false := hs₅.extBut _ _ D.TOz.symm (hs₄.extBut _ _ D.i2z.symm (hs₃.extBut _ _ D.TOz.symm (hs₂.extBut _ _ D.i1z.symm hz₁)))
  have hk₅ : ∀ c o, c ≠ z → c ≠ TO → c ≠ i1 → c ≠ i2 → s.heap.get? c = some o → h₅.get? c = some o := fun c o c1 c2 c3 c4 e =>
    hs₅.extBut _ _ c2 (hs₄.extBut _ _ c4 (hs₃.extBut _ _ c2 (hs₂.extBut _ _ c3 (hs₁.extBut _ _ c1 e))))
  have h1₅ : h₅.IsTupleIter i1 l1 (k1 + 1) := ((h1₂.extBut hs₃.extBut D.TOi1.symm).extBut hs₄.extBut D.i12).extBut hs₅.extBut D.TOi1.symm
  have h2₅ : h₅.IsListIter i2 l2 (k2 + 1) := h2₄.extBut hs₅.extBut D.TOi2.symm
  have hzlt : z < h₅.objs.size := Heap.lt_size hz₅
  show wpAny _ _ (Builtin.SmallTypes.ownedTupleHandOut (.ref z) (.ref h₅.objs.size) >>= _) _ _ _
  refine wpAny_bind ?_
  unfold Builtin.SmallTypes.ownedTupleHandOut
  have hz₆ : IsZ (h₅.push { cls := .type "tuple", data := .seq #[x, y] }) z TI TO .ellipsis false := Heap.get?_push_of_some _ hz₅
  refine wpAny_bind (wpAny_setField_rec hz₆ (by simp) fun h₇ hz₇ hs₇ => ?_)
  replace hz₇ : IsZ h₇ z TI TO (rawInt h₅.objs.size) false := hz₇
  refine wpAny_setField_rec hz₇ (by simp) fun h₈ hz₈ hs₈ => ?_
  replace hz₈ : IsZ h₈ z TI TO (rawInt h₅.objs.size) false := hz₈
  have up : ∀ c o, c ≠ z → h₅.get? c = some o → h₈.get? c = some o := fun c o c1 e => hs₈.extBut _ _ c1 (hs₇.extBut _ _ c1 (Heap.get?_push_of_some _ e))
  have hT₈ : IsPair h₈ h₅.objs.size x y := hs₈.extBut _ _ (Nat.ne_of_gt hzlt) (hs₇.extBut _ _ (Nat.ne_of_gt hzlt) (Heap.get?_push_size _ rfl))
  rw [hsz] at hz₈ hT₈
  refine wpAny_pure ⟨_, rfl, ?_⟩
  show Q (.ref h₅.objs.size) _
  rw [hsz]
  exact hQ h₈ hz₈ (up _ _ D.TOz hTO₅) (h1₅.at fun o e => up _ o D.i1z e) (h2₅.at fun o e => up _ o D.i2z e) hT₈ fun c o c1 c2 c3 c4 e => up c o c1 (hk₅ c o c1 c2 c3 c4 e)
theorem wpAny_alive {a : Addr} {Q : Option Obj → Shared → Prop} (h : Q (s.heap.get? a) s) : wpAny (model prog w) A (loadIfAlive a) Q E s := fun _ _ _ => h
/-- the tuple that was handed out first is alive: the answer is no -/
theorem busy {z TI TO T : Addr} {b : Bool} {oT : Obj} {Q : Bool → Shared → Prop} (hz : IsZ s.heap z TI TO (rawInt T) b) (hT : s.heap.get? T = some oT)
    (hQ : ∀ h', IsZ h' z TI TO (rawInt T) true → Heap.SameBut z s.heap h' → Q false { s with heap := h' }) : wpAny (model prog w) A (Builtin.SmallTypes.ownedTupleIsFree (.ref z)) Q E s := by
  unfold Builtin.SmallTypes.ownedTupleIsFree
  refine wpAny_bind (wpAny_field hz rfl (x := rawInt T) rfl ?_)
  show wpAny _ _ (loadIfAlive T >>= _) _ _ _
  refine wpAny_bind (wpAny_alive ?_)
  rw [hT]
  show wpAny _ _ (field (.ref z) 1 >>= _) _ _ _
  refine wpAny_bind (wpAny_field hz rfl (x := .bool b) rfl ?_)
  cases b with
  | false =>
    show wpAny _ _ (setField (.ref z) 1 (.bool true) >>= fun _ => pure false) _ _ _
    exact wpAny_bind (wpAny_setField_rec hz (by simp) fun h₁ hz₁ hs₁ => wpAny_pure (hQ h₁ hz₁ hs₁))
  | true =>
    show wpAny _ _ (pure false) _ _ _
    exact wpAny_pure (hQ s.heap hz ⟨rfl, fun _ _ => rfl⟩)
theorem next_busy {z TI TO T i1 i2 l1 l2 : Addr} {k1 k2 : Nat} {bz : Bool} {oT : Obj} {xs ys : Array Value} {x y a b : Value} {Q : Value → Shared → Prop} (D : ZipApart z TI TO i1 i2 l1 l2)
    (hz : IsZ s.heap z TI TO (rawInt T) bz) (hT : s.heap.get? T = some oT) (hTI : IsPair s.heap TI (.ref i1) (.ref i2)) (hTO : IsPair s.heap TO a b)
    (h1 : s.heap.IsTupleIter i1 l1 k1) (h2 : s.heap.IsListIter i2 l2 k2) (hl1 : s.heap.IsTuple l1 xs) (hl2 : s.heap.IsList l2 ys) (hx : xs[k1]? = some x) (hy : ys[k2]? = some y)
    (hQ : ∀ h', IsZ h' z TI TO (rawInt T) true → IsPair h' TO a b → h'.IsTupleIter i1 l1 (k1 + 1) → h'.IsListIter i2 l2 (k2 + 1) → IsPair h' s.heap.objs.size x y →
      (∀ c o, c ≠ z → c ≠ i1 → c ≠ i2 → s.heap.get? c = some o → h'.get? c = some o) → Q (.ref s.heap.objs.size) { s with heap := h' }) :
    wpAny (model prog w) A (Builtin.«zip.__next__» ⟨[.ref z], []⟩) (fun fin s' => ∃ v, fin = .done (.ret v) ∧ Q v s') E s := by
  show wpAny _ _ (field (.ref z) 2 >>= _) _ _ _
  refine wpAny_bind (wpAny_field hz rfl (x := .bool false) rfl ?_)
  show wpAny _ _ (field (.ref z) 3 >>= _) _ _ _
  refine wpAny_bind (wpAny_field hz rfl (x := .ref TI) rfl ?_)
  refine wpAny_bind (wpAny_seqItems hTI rfl ?_)
  show wpAny _ _ (Builtin.SmallTypes.ownedTupleIsFree (.ref z) >>= _) _ _ _
  refine wpAny_bind (busy hz hT fun h₁ hz₁ hs₁ => ?_)
  rw [if_neg Bool.false_ne_true]
  refine wpAny_bind ?_
  first
  | rw [List.forIn_toArray]
  | (rw [← Array.forIn_toList]; simp only [List.toList_toArray])
  | rw [← Array.forIn_toList]
  simp only [List.forIn_cons, List.forIn_nil]
  refine wpAny_bind (wpAny_bind (wpAny_holding ?_))
  show wpAny _ _ (Builtin.SmallTypes.nextOf (.ref i1) >>= _) _ _ _
  refine wpAny_bind (nextOf_tuple_item (h1.extBut hs₁.extBut D.i1z) (hl1.extBut hs₁.extBut D.l1z) hx fun h₂ h1₂ hs₂ => wpAny_pure ?_)
  refine wpAny_pure ?_
  refine wpAny_bind (wpAny_bind (wpAny_holding ?_))
  show wpAny _ _ (Builtin.SmallTypes.nextOf (.ref i2) >>= _) _ _ _
  refine wpAny_bind (wpAny_nextOf_list_item ((h2.extBut hs₁.extBut D.i2z).extBut hs₂.extBut D.i12.symm) ((hl2.extBut hs₁.extBut D.l2z).extBut hs₂.extBut D.l2i1) hy fun h₃ h2₃ hs₃ => wpAny_pure ?_)
  refine wpAny_pure (wpAny_pure ?_)
  show wpAny _ _ (newTuple [x, y] >>= _) _ _ _
  refine wpAny_bind (wpAny_newTuple ?_)
  have hsz : h₃.objs.size = s.heap.objs.size := by rw [hs₃.1, hs₂.1, hs₁.1]
  have hz₃ : IsZ h₃ z TI TO (rawInt T) true := hs₃.extBut _ _ D.i2z.symm (hs₂.extBut _ _ D.i1z.symm hz₁)
  have hk₃ : ∀ c o, c ≠ z → c ≠ i1 → c ≠ i2 → s.heap.get? c = some o → h₃.get? c = some o := fun c o c1 c3 c4 e => hs₃.extBut _ _ c4 (hs₂.extBut _ _ c3 (hs₁.extBut _ _ c1 e))
  refine wpAny_pure ⟨_, rfl, ?_⟩
  show Q (.ref h₃.objs.size) _
  have hp : IsPair (h₃.push { cls := .type "tuple", data := .seq #[x, y] }) h₃.objs.size x y := Heap.get?_push_size _ rfl
  rw [hsz] at hp
  rw [hsz]
  exact hQ _ (Heap.get?_push_of_some _ hz₃) (Heap.get?_push_of_some _ (hk₃ _ _ D.TOz D.TOi1 D.TOi2 hTO)) ((h1₂.extBut hs₃.extBut D.i12).at fun o e => Heap.get?_push_of_some _ e) (h2₃.at fun o e => Heap.get?_push_of_some _ e) hp
    fun c o c1 c3 c4 e => Heap.get?_push_of_some _ (hk₃ c o c1 c3 c4 e)
/-- the tuple's end -/
theorem end_free {z TI TO i1 i2 l1 l2 : Addr} {k1 : Nat} {xs : Array Value} {a b : Value} {Q : Fin → Shared → Prop} (hh : A.handled = none) (D : ZipApart z TI TO i1 i2 l1 l2)
    (hz : IsZ s.heap z TI TO .none false) (hTI : IsPair s.heap TI (.ref i1) (.ref i2)) (hTO : IsPair s.heap TO a b)
    (h1 : s.heap.IsTupleIter i1 l1 k1) (hl1 : s.heap.IsTuple l1 xs) (hend : xs[k1]? = none)
    (hE : ∀ h' e, (∀ c o, c ≠ z → c ≠ i1 → s.heap.get? c = some o → h'.get? c = some o) → (∃ o, h'.get? e = some o ∧ o.cls = .type "StopIteration") → E (.ref e) { s with heap := h' }) :
    wpAny (model prog w) A (Builtin.«zip.__next__» ⟨[.ref z], []⟩) Q E s := by
  show wpAny _ _ (field (.ref z) 2 >>= _) _ _ _
  refine wpAny_bind (wpAny_field hz rfl (x := .bool false) rfl ?_)
  show wpAny _ _ (field (.ref z) 3 >>= _) _ _ _
  refine wpAny_bind (wpAny_field hz rfl (x := .ref TI) rfl ?_)
  refine wpAny_bind (wpAny_seqItems hTI rfl ?_)
  show wpAny _ _ (Builtin.SmallTypes.ownedTupleIsFree (.ref z) >>= _) _ _ _
  refine wpAny_bind ?_
  unfold Builtin.SmallTypes.ownedTupleIsFree
  refine wpAny_bind (wpAny_field hz rfl (x := .none) rfl (wpAny_pure ?_))
  simp only [if_true]
  refine wpAny_bind (wpAny_rule ?_)
  refine wpAny_bind (wpAny_field hz rfl (x := .ref TO) rfl ?_)
  refine wpAny_bind (wpAny_setField_rec hz (by simp) fun h₁ hz₁ hs₁ => ?_)
  replace hz₁ : IsZ h₁ z TI TO .ellipsis false := hz₁
  refine wpAny_bind ?_
  simp only [List.zipIdx_cons, List.zipIdx_nil, List.forIn_cons, List.forIn_nil]
  refine wpAny_bind (wpAny_bind (wpAny_onRaise ?_))
  show wpAny _ _ (Builtin.SmallTypes.nextOf (.ref i1) >>= _) _ _ _
  refine wpAny_bind (nextOf_tuple_end hh (h1.extBut hs₁.extBut D.i1z) (hl1.extBut hs₁.extBut D.l1z) hend fun h₂ e hs₂ he => ?_)
  obtain ⟨oe, hoe, hce⟩ := he
  have hz₂ : IsZ h₂ z TI TO .ellipsis false := hs₂ _ _ D.i1z.symm hz₁
  have hez : e ≠ z := fun x => by subst x; rw [hz₂] at hoe; cases hoe; simp at hce
  refine wpAny_setField_rec hz₂ (by simp) fun h₃ _ hs₃ => hE h₃ e (fun c o c1 c3 x => hs₃.extBut _ _ c1 (hs₂ _ _ c3 (hs₁.extBut _ _ c1 x))) ⟨oe, hs₃.extBut _ _ hez hoe, hce⟩
theorem end_busy {z TI TO T i1 i2 l1 l2 : Addr} {k1 : Nat} {bz : Bool} {oT : Obj} {xs : Array Value} {Q : Fin → Shared → Prop} (hh : A.handled = none) (D : ZipApart z TI TO i1 i2 l1 l2)
    (hz : IsZ s.heap z TI TO (rawInt T) bz) (hT : s.heap.get? T = some oT) (hTI : IsPair s.heap TI (.ref i1) (.ref i2))
    (h1 : s.heap.IsTupleIter i1 l1 k1) (hl1 : s.heap.IsTuple l1 xs) (hend : xs[k1]? = none)
    (hE : ∀ h' e, (∀ c o, c ≠ z → c ≠ i1 → s.heap.get? c = some o → h'.get? c = some o) → (∃ o, h'.get? e = some o ∧ o.cls = .type "StopIteration") → E (.ref e) { s with heap := h' }) :
    wpAny (model prog w) A (Builtin.«zip.__next__» ⟨[.ref z], []⟩) Q E s := by
  show wpAny _ _ (field (.ref z) 2 >>= _) _ _ _
  refine wpAny_bind (wpAny_field hz rfl (x := .bool false) rfl ?_)
  show wpAny _ _ (field (.ref z) 3 >>= _) _ _ _
  refine wpAny_bind (wpAny_field hz rfl (x := .ref TI) rfl ?_)
  refine wpAny_bind (wpAny_seqItems hTI rfl ?_)
  show wpAny _ _ (Builtin.SmallTypes.ownedTupleIsFree (.ref z) >>= _) _ _ _
  refine wpAny_bind (busy hz hT fun h₁ hz₁ hs₁ => ?_)
  rw [if_neg Bool.false_ne_true]
  refine wpAny_bind ?_
  first
  | rw [List.forIn_toArray]
  | (rw [← Array.forIn_toList]; simp only [List.toList_toArray])
  | rw [← Array.forIn_toList]
  simp only [List.forIn_cons, List.forIn_nil]
  refine wpAny_bind (wpAny_bind (wpAny_holding ?_))
  show wpAny _ _ (Builtin.SmallTypes.nextOf (.ref i1) >>= _) _ _ _
  refine wpAny_bind (nextOf_tuple_end hh (h1.extBut hs₁.extBut D.i1z) (hl1.extBut hs₁.extBut D.l1z) hend fun h₂ e hs₂ he => ?_)
  exact hE h₂ e (fun c o c1 c3 x => hs₂ _ _ c3 (hs₁.extBut _ _ c1 x)) he
end
/-- the zip at z after i turns; the pairs made so far are the list's items -/
structure ZS (S z TI TO i1 i2 l1 l2 : Addr) (xs ys : Array Value) (i : Nat) (acc : Array Value) (h : Heap) : Prop where
  zip : (acc = #[] ∧ IsZ h z TI TO .none false) ∨ ∃ (T : Addr) (b : Bool), acc[0]? = some (.ref T) ∧ IsZ h z TI TO (rawInt T) b
  ti : IsPair h TI (.ref i1) (.ref i2)
  to : ∃ a b, IsPair h TO a b
  it1 : h.IsTupleIter i1 l1 i
  it2 : h.IsListIter i2 l2 i
  t1 : h.IsTuple l1 xs
  t2 : h.IsList l2 ys
  size : acc.size = i
  inj : ∀ (j k : Nat) (v : Value), acc[j]? = some v → acc[k]? = some v → j = k
  made : ∀ (j : Nat) (v : Value), acc[j]? = some v → ∃ (T : Addr) (x y : Value), v = Value.ref T ∧ T ≠ z ∧ T ≠ TO ∧ T ≠ i1 ∧ T ≠ i2 ∧ S < T ∧ xs[j]? = some x ∧ ys[j]? = some y ∧ IsPair h T x y
section
variable {prog : Program} {w : World} {A : Around} {E : Value → Shared → Prop} {s : Shared} {S z TI TO i1 i2 l1 l2 : Addr} {xs ys : Array Value}
theorem ZS.keep {i : Nat} {acc : Array Value} {h h' : Heap} (D : ZipApart z TI TO i1 i2 l1 l2) (hS : S ≠ z ∧ S ≠ TI ∧ S ≠ TO ∧ S ≠ i1 ∧ S ≠ i2 ∧ S ≠ l1 ∧ S ≠ l2) (g : ZS S z TI TO i1 i2 l1 l2 xs ys i acc h) (k : ∀ b o, b ≠ S → h.get? b = some o → h'.get? b = some o) : ZS S z TI TO i1 i2 l1 l2 xs ys i acc h' := by
  obtain ⟨a, b, c, d, e, f, g'⟩ := hS
  refine ⟨?_, k _ _ b.symm g.ti, ?_, g.it1.at fun o => k _ o d.symm, g.it2.at fun o => k _ o e.symm, g.t1.at fun o => k _ o f.symm, g.t2.at fun o => k _ o g'.symm, g.size, g.inj, fun j v hv => ?_⟩
  · rcases g.zip with ⟨q, z1⟩ | ⟨T, bb, q, z1⟩
    · exact .inl ⟨q, k _ _ a.symm z1⟩
    · exact .inr ⟨T, bb, q, k _ _ a.symm z1⟩
  · obtain ⟨p, q, hp⟩ := g.to
    exact ⟨p, q, k _ _ c.symm hp⟩
  · obtain ⟨T, x, y, e1, a1, a2, a3, a4, a5, e2, e3, e4⟩ := g.made j v hv
    exact ⟨T, x, y, e1, a1, a2, a3, a4, a5, e2, e3, k _ _ (Nat.ne_of_gt a5) e4⟩
theorem zs_item {i : Nat} {acc : Array Value} {x y : Value} {Q : Option Value → Shared → Prop} (D : ZipApart z TI TO i1 i2 l1 l2) (g : ZS S z TI TO i1 i2 l1 l2 xs ys i acc s.heap) (hx : xs[i]? = some x) (hy : ys[i]? = some y) {oS : Obj} (hSS : s.heap.get? S = some oS)
    (hQ : ∀ v h', ZS S z TI TO i1 i2 l1 l2 xs ys (i + 1) (acc.push v) h' → (∀ c o, c ≠ z → c ≠ TO → c ≠ i1 → c ≠ i2 → s.heap.get? c = some o → h'.get? c = some o) → Q (some v) { s with heap := h' }) :
    wpAny (model prog w) A (pyNext (.ref z)) Q E s := by
  have hT : s.TypeIs (.ref z) "zip" := by
    rcases g.zip with ⟨q, z1⟩ | ⟨T, bb, q, z1⟩
    · exact ⟨_, z1, rfl⟩
    · exact ⟨_, z1, rfl⟩
  obtain ⟨a, b, hTO⟩ := g.to
  have ne : ∀ {c o}, s.heap.get? c = some o → s.heap.objs.size ≠ c := fun e => Nat.ne_of_gt (Heap.lt_size e)
  have hi1 : ∃ o, s.heap.get? i1 = some o := let ⟨o, ho, _⟩ := g.it1; ⟨o, ho⟩
  have hi2 : ∃ o, s.heap.get? i2 = some o := let ⟨o, ho, _⟩ := g.it2; ⟨o, ho⟩
  have hz' : ∃ o, s.heap.get? z = some o := by
    rcases g.zip with ⟨q, z1⟩ | ⟨T, bb, q, z1⟩
    · exact ⟨_, z1⟩
    · exact ⟨_, z1⟩
  have made : ∀ h', IsPair h' s.heap.objs.size x y → (∀ c o, c ≠ z → c ≠ TO → c ≠ i1 → c ≠ i2 → s.heap.get? c = some o → h'.get? c = some o) →
      ∀ (j : Nat) (v : Value), (acc.push (Value.ref s.heap.objs.size))[j]? = some v → ∃ (T : Addr) (x y : Value), v = Value.ref T ∧ T ≠ z ∧ T ≠ TO ∧ T ≠ i1 ∧ T ≠ i2 ∧ S < T ∧ xs[j]? = some x ∧ ys[j]? = some y ∧ IsPair h' T x y := by
    intro h' hp hk j v hv
    rw [Array.getElem?_push] at hv
    split at hv
    · rename_i e
      rw [g.size] at e
      subst e
      obtain rfl := Option.some.inj hv
      exact ⟨_, x, y, rfl, let ⟨_, e⟩ := hz'; ne e, ne hTO, let ⟨_, e⟩ := hi1; ne e, let ⟨_, e⟩ := hi2; ne e, Heap.lt_size hSS, hx, hy, hp⟩
    · obtain ⟨T, x', y', e1, a1, a2, a3, a4, a5, e2, e3, e4⟩ := g.made j v hv
      exact ⟨T, x', y', e1, a1, a2, a3, a4, a5, e2, e3, hk _ _ a1 a2 a3 a4 e4⟩
  have inj : ∀ (j k : Nat) (v : Value), (acc.push (Value.ref s.heap.objs.size))[j]? = some v → (acc.push (Value.ref s.heap.objs.size))[k]? = some v → j = k := by
    intro j k v h1 h2
    have old : ∀ j : Nat, acc[j]? ≠ some (Value.ref s.heap.objs.size) := fun j e => by
      obtain ⟨T, x', y', e1, a1, a2, a3, a4, a5, e2, e3, e4⟩ := g.made j _ e
      obtain rfl := Value.ref.inj e1
      exact absurd rfl (ne e4)
    rw [Array.getElem?_push] at h1 h2
    split at h1
    · split at h2
      · omega
      · obtain rfl := Option.some.inj h1
        exact absurd h2 (old k)
    · split at h2
      · obtain rfl := Option.some.inj h2
        exact absurd h1 (old j)
      · exact g.inj j k v h1 h2
  unfold pyNext
  rcases g.zip with ⟨q, z1⟩ | ⟨T, bb, q, z1⟩
  · refine wpAny_bind (wpAny_attempt (wpAny_callSpecial?_slot (name := Str.ofString "__next__") hT F.slot_zip_next
      (wpAny_call_entry F.slot_zip_next hT F.entry_zip_next (next_free D z1 g.ti hTO g.it1 g.it2 g.t1 g.t2 hx hy fun h' q1 q2 q3 q4 q5 hk => wpAny_pure ?_) (F.args_zip_next_1 _))))
    subst q
    exact hQ _ h' ⟨.inr ⟨_, _, by simp, q1⟩, hk _ _ D.TIz D.TITO D.TIi1 D.TIi2 g.ti, ⟨_, _, q2⟩, q3, q4, g.t1.at fun o => hk _ o D.l1z D.l1TO D.l1i1 D.l1i2, g.t2.at fun o => hk _ o D.l2z D.l2TO D.l2i1 D.l2i2, by rw [Array.size_push, g.size], inj, made h' q5 hk⟩ hk
  · obtain ⟨T', x0, y0, e1, a1, a2, a3, a4, a5, e2, e3, e4⟩ := g.made 0 _ q
    obtain rfl : T = T' := Value.ref.inj e1
    refine wpAny_bind (wpAny_attempt (wpAny_callSpecial?_slot (name := Str.ofString "__next__") hT F.slot_zip_next
      (wpAny_call_entry F.slot_zip_next hT F.entry_zip_next (next_busy D z1 e4 g.ti hTO g.it1 g.it2 g.t1 g.t2 hx hy fun h' q1 q2 q3 q4 q5 hk => wpAny_pure ?_) (F.args_zip_next_1 _))))
    have hk' : ∀ c o, c ≠ z → c ≠ TO → c ≠ i1 → c ≠ i2 → s.heap.get? c = some o → h'.get? c = some o := fun c o c1 _ c3 c4 => hk c o c1 c3 c4
    refine hQ _ h' ⟨.inr ⟨T, true, ?_, q1⟩, hk' _ _ D.TIz D.TITO D.TIi1 D.TIi2 g.ti, ⟨_, _, q2⟩, q3, q4, g.t1.at fun o => hk' _ o D.l1z D.l1TO D.l1i1 D.l1i2, g.t2.at fun o => hk' _ o D.l2z D.l2TO D.l2i1 D.l2i2, by rw [Array.size_push, g.size], inj, made h' q5 hk'⟩ hk'
    have hlt := (Array.getElem?_eq_some_iff.mp q).1
    rw [Array.getElem?_push_lt hlt, ← Array.getElem?_eq_getElem hlt]
    exact q
theorem zs_end {i : Nat} {acc : Array Value} {Q : Option Value → Shared → Prop} (hh : A.handled = none) (D : ZipApart z TI TO i1 i2 l1 l2) (g : ZS S z TI TO i1 i2 l1 l2 xs ys i acc s.heap) (hx : xs[i]? = none)
    (hQ : ∀ h', (∀ c o, c ≠ z → c ≠ i1 → s.heap.get? c = some o → h'.get? c = some o) → Q none { s with heap := h' }) :
    wpAny (model prog w) A (pyNext (.ref z)) Q E s := by
  have hT : s.TypeIs (.ref z) "zip" := by
    rcases g.zip with ⟨q, z1⟩ | ⟨T, bb, q, z1⟩
    · exact ⟨_, z1, rfl⟩
    · exact ⟨_, z1, rfl⟩
  obtain ⟨a, b, hTO⟩ := g.to
  unfold pyNext
  rcases g.zip with ⟨q, z1⟩ | ⟨T, bb, q, z1⟩
  · refine wpAny_bind (wpAny_attempt (wpAny_callSpecial?_slot (name := Str.ofString "__next__") hT F.slot_zip_next
      (wpAny_call_entry F.slot_zip_next hT F.entry_zip_next (end_free hh D z1 g.ti hTO g.it1 g.t1 hx fun h' e hk he => ?_) (F.args_zip_next_1 _))))
    obtain ⟨o, ho, hc⟩ := he
    refine wpAny_bind (wpAny_isInstance (T := "StopIteration") (b := true) ⟨o, ho, hc⟩ isSubtype_stop ?_)
    exact wpAny_pure (hQ _ hk)
  · obtain ⟨T', x0, y0, e1, a1, a2, a3, a4, a5, e2, e3, e4⟩ := g.made 0 _ q
    obtain rfl : T = T' := Value.ref.inj e1
    refine wpAny_bind (wpAny_attempt (wpAny_callSpecial?_slot (name := Str.ofString "__next__") hT F.slot_zip_next
      (wpAny_call_entry F.slot_zip_next hT F.entry_zip_next (end_busy hh D z1 e4 g.ti g.it1 g.t1 hx fun h' e hk he => ?_) (F.args_zip_next_1 _))))
    obtain ⟨o, ho, hc⟩ := he
    refine wpAny_bind (wpAny_isInstance (T := "StopIteration") (b := true) ⟨o, ho, hc⟩ isSubtype_stop ?_)
    exact wpAny_pure (hQ _ hk)
theorem code_loop {R : Result → Shared → Prop} (hh : A.handled = none) (D : ZipApart z TI TO i1 i2 l1 l2) (hS : S ≠ z ∧ S ≠ TI ∧ S ≠ TO ∧ S ≠ i1 ∧ S ≠ i2 ∧ S ≠ l1 ∧ S ≠ l2) (hl : xs.size ≤ ys.size) (hn : xs.size ≤ sizeLine) (res : Value) :
    ∀ (k i : Nat) (s : Shared) (acc : Array Value) (c : Nat), xs.size - i = k → i ≤ xs.size → ZS S z TI TO i1 i2 l1 l2 xs ys i acc s.heap → s.heap.get? S = some { cls := .type "list", dict := none, data := .seq acc c, slots := #[] } →
    (∀ h' acc' c', (∀ b o, b ≠ S → b ≠ z → b ≠ TO → b ≠ i1 → b ≠ i2 → s.heap.get? b = some o → h'.get? b = some o) → h'.get? S = some { cls := .type "list", dict := none, data := .seq acc' c', slots := #[] } →
      acc'.size = xs.size → (∀ (j k : Nat) (v : Value), acc'[j]? = some v → acc'[k]? = some v → j = k) → (∀ (j : Nat) (v : Value), acc'[j]? = some v → ∃ (T : Addr) (x y : Value), v = Value.ref T ∧ xs[j]? = some x ∧ ys[j]? = some y ∧ IsPair h' T x y ∧ S < T ∧ T ≠ z ∧ T ≠ TO ∧ T ≠ i1 ∧ T ≠ i2) → R (.ok (.ret res)) { s with heap := h' }) →
    codeAny (model prog w) A (.builtin "list.extend.loop" ⟨[.ref S, .ref z, res], []⟩) R s := by
  intro k
  induction k with
  | zero =>
    intro i s acc c hk hi hst hSS hR
    have hin : i = xs.size := by omega
    subst hin
    refine codeAny_builtin F.entry_extend_loop ?_
    rw [Around.under_plainId F.plain_extend_loop _]
    show wpAny _ A.in1 (pyNext (.ref z) >>= _) _ _ s
    refine wpAny_bind (zs_end hh D hst (Array.getElem?_eq_none (Nat.le_refl _)) fun h' hk' => ?_)
    refine wpAny_pure (hR h' acc c (fun b o _ c1 _ c3 _ e => hk' b o c1 c3 e) (hk' _ _ hS.1 hS.2.2.2.1 hSS) hst.size hst.inj fun j v hv => ?_)
    obtain ⟨T, x, y, e1, a1, a2, a3, a4, a5, e2, e3, e4⟩ := hst.made j v hv
    exact ⟨T, x, y, e1, e2, e3, hk' _ _ a1 a3 e4, a5, a1, a2, a3, a4⟩
  | succ k ih =>
    intro i s acc c hk hi hst hSS hR
    have hlt : i < xs.size := by omega
    refine codeAny_builtin F.entry_extend_loop ?_
    rw [Around.under_plainId F.plain_extend_loop _]
    show wpAny _ A.in1 (pyNext (.ref z) >>= _) _ _ s
    refine wpAny_bind (zs_item D hst (Array.getElem?_eq_getElem hlt) (Array.getElem?_eq_getElem (by omega)) hSS fun v h' hst' hk' => ?_)
    have hS' := hk' _ _ hS.1 hS.2.2.1 hS.2.2.2.1 hS.2.2.2.2.1 hSS
    show wpAny _ A.in1 (updateSeq S (·.push v) >>= _) _ _ _
    refine wpAny_bind ?_
    refine wpAny_updateSeq hS' rfl (wpAny_pure ⟨plainId_quiet F.plain_extend_loop _, ih (i + 1) _ (acc.push v) _ (by omega) hlt (hst'.keep D hS fun b o hb e => ?_) (Heap.get?_update_self _ hS' rfl) fun h'' acc' c' hk'' hS'' hz hj hm => ?_⟩)
      (by rw [hst.size]; omega) (by show (acc.push v).size ≤ sizeLine + 1; rw [Array.size_push, hst.size]; omega)
    · exact (Heap.get?_update_other _ _ (Ne.symm hb)).trans e
    · exact hR h'' acc' c' (fun b o b0 b1 b2 b3 b4 e => hk'' b o b0 b1 b2 b3 b4 ((Heap.get?_update_other _ _ (Ne.symm b0)).trans (hk' b o b1 b2 b3 b4 e))) hS'' hz hj hm
end
theorem no_len : typeLookup (.type "zip") "__len__" = pure none := by rw [typeLookup_type, builtinLookup_eq_fast]; kernel_rfl
theorem no_hint : typeLookup (.type "zip") "__length_hint__" = pure none := by rw [typeLookup_type, builtinLookup_eq_fast]; kernel_rfl
section
variable {prog : Program} {w : World} {A : Around} {E : Value → Shared → Prop} {s : Shared} {S z TI TO i1 i2 l1 l2 : Addr} {xs ys : Array Value}
theorem extend_zip {R : Result → Shared → Prop} (hh : A.handled = none) (D : ZipApart z TI TO i1 i2 l1 l2) (hS : S ≠ z ∧ S ≠ TI ∧ S ≠ TO ∧ S ≠ i1 ∧ S ≠ i2 ∧ S ≠ l1 ∧ S ≠ l2) (hl : xs.size ≤ ys.size) (hn : xs.size ≤ sizeLine) (res : Value)
    (hst : ZS S z TI TO i1 i2 l1 l2 xs ys 0 #[] s.heap) (c0 : Nat) (hSS : s.heap.get? S = some { cls := .type "list", data := .seq #[] c0 })
    (hR : ∀ h' acc' c', (∀ b o, b ≠ S → b ≠ z → b ≠ TO → b ≠ i1 → b ≠ i2 → s.heap.get? b = some o → h'.get? b = some o) → h'.get? S = some { cls := .type "list", dict := none, data := .seq acc' c', slots := #[] } →
      acc'.size = xs.size → (∀ (j k : Nat) (v : Value), acc'[j]? = some v → acc'[k]? = some v → j = k) → (∀ (j : Nat) (v : Value), acc'[j]? = some v → ∃ (T : Addr) (x y : Value), v = Value.ref T ∧ xs[j]? = some x ∧ ys[j]? = some y ∧ IsPair h' T x y ∧ S < T ∧ T ≠ z ∧ T ≠ TO ∧ T ≠ i1 ∧ T ≠ i2) → R (.ok (.ret res)) { s with heap := h' }) :
    wpAny (model prog w) A.in1 (Builtin.List.listExtendWith (.ref S) (.ref z) res)
      (fun fin s' => match fin with | .done f => R (.ok f) s' | .again c' => c'.quiet = true ∧ codeAny (model prog w) A c' R s') (fun e s' => R (.error e) s') s := by
  have hT : ∀ s' : Shared, ZS S z TI TO i1 i2 l1 l2 xs ys 0 #[] s'.heap → s'.TypeIs (.ref z) "zip" := fun s' g => by
    rcases g.zip with ⟨q, z1⟩ | ⟨T, bb, q, z1⟩
    · exact ⟨_, z1, rfl⟩
    · exact ⟨_, z1, rfl⟩
  unfold Builtin.List.listExtendWith
  refine wpAny_bind (wpAny_typeOf (hT s hst) ?_)
  have h1 : Builtin.List.listSameRef (.ref S) (.ref z) = false := by simp [Builtin.List.listSameRef, hS.1]
  rw [if_neg (by rw [h1]; decide)]
  have hz0 : IsZip s.heap z TI TO .none := by
    rcases hst.zip with ⟨q, z1⟩ | ⟨T, bb, q, z1⟩
    · exact z1
    · simp at q
  refine wpAny_bind (wpAny_pyIter_zip hz0 ?_)
  refine wpAny_bind (wpAny_holding ?_)
  unfold Builtin.List.listLengthHint
  refine wpAny_bind (wpAny_specialOf (hT s hst) no_len ?_)
  show wpAny _ _ (specialOf (Value.ref z) (Str.ofString "__length_hint__") >>= _) _ _ _
  refine wpAny_bind (wpAny_specialOf (hT s hst) no_hint ?_)
  refine wpAny_pure ?_
  have fin : ∀ (h2 : Heap), (∃ c1, h2.get? S = some { cls := .type "list", dict := none, data := .seq #[] c1, slots := #[] }) →
      (∀ b o, b ≠ S → s.heap.get? b = some o → h2.get? b = some o) →
      (fun fin s' => match fin with | .done f => R (.ok f) s' | .again c' => c'.quiet = true ∧ codeAny (model prog w) A c' R s') (PySem.Fin.again (.builtin "list.extend.loop" ⟨[.ref S, .ref z, res], []⟩)) { s with heap := h2 } := by
    intro h2 hS2 k2
    obtain ⟨c1, hS2⟩ := hS2
    refine ⟨plainId_quiet F.plain_extend_loop _, code_loop hh D hS hl hn res xs.size 0 { s with heap := h2 } #[] c1 rfl (Nat.zero_le _) (hst.keep D hS k2) hS2 fun h' acc' c' hk' hS' hz' hj' hm' => ?_⟩
    exact hR h' acc' c' (fun b o b0 b1 b2 b3 b4 e => hk' b o b0 b1 b2 b3 b4 (k2 b o b0 e)) hS' hz' hj' hm'
  show wpAny _ A.in1 (rule "list.extend.makes-room" >>= fun _ => Builtin.List.listTouch (.ref S) >>= fun _ => again (.builtin "list.extend.loop" ⟨[.ref S, .ref z, res], []⟩)) _ _ _
  refine wpAny_bind (wpAny_rule ?_)
  refine wpAny_bind ?_
  show wpAny _ A.in1 (updateSeq S (·.push .none) >>= fun _ => updateSeq S (·.pop)) _ _ _
  refine wpAny_bind (wpAny_updateSeq hSS rfl ?_ (Nat.zero_le _) (by rw [sizeLine_eq]; show 1 ≤ _; decide))
  have hS3 := Heap.get?_update_self (Obj.mapSeq (·.push Value.none)) hSS rfl
  refine wpAny_updateSeq (s := { s with heap := s.heap.update S (Obj.mapSeq (·.push Value.none)) }) hS3 rfl ?_ (by rw [sizeLine_eq]; show 1 ≤ _; decide) (Nat.zero_le _)
  have hS4 := Heap.get?_update_self (Obj.mapSeq (·.pop)) hS3 rfl
  refine wpAny_pure (fin _ ⟨_, hS4⟩ fun b o hb e => ?_)
  exact (Heap.get?_update_other _ _ (Ne.symm hb)).trans ((Heap.get?_update_other _ _ (Ne.symm hb)).trans e)
end
abbrev mH1 (h : Heap) (l1 : Addr) : Heap := h.push { cls := .type "tuple_iterator", data := .fields #[.ref l1, .int 0 0] }
abbrev mH2 (h : Heap) (l1 l2 : Addr) : Heap := (mH1 h l1).push { cls := .type "list_iterator", data := .fields #[.ref l2, .int 0 0] }
abbrev mH3 (h : Heap) (l1 l2 : Addr) : Heap := (mH2 h l1 l2).push { cls := .type "tuple", data := .seq #[.ref h.objs.size, .ref (mH1 h l1).objs.size] }
abbrev mH4 (h : Heap) (l1 l2 : Addr) : Heap := (mH3 h l1 l2).push { cls := .type "tuple", data := .seq #[.none, .none] }
abbrev mH5 (h : Heap) (l1 l2 : Addr) : Heap := (mH4 h l1 l2).push { cls := .type "zip", data := .fields #[.none, .bool false, .bool false, .ref (mH2 h l1 l2).objs.size, .ref (mH3 h l1 l2).objs.size] }
theorem meets_zip_new (l1 l2 : Addr) (xs ys : Array Value) :
    Meets (Builtin.«zip.__new__» ⟨[.type "zip", .ref l1, .ref l2], []⟩) (fun _ R s => s.heap.IsTuple l1 xs ∧ s.heap.IsList l2 ys ∧
      R (.ok (.ret (.ref (mH4 s.heap l1 l2).objs.size))) { s with heap := mH5 s.heap l1 l2 }) :=
  .of_wp fun prog w A R s h => by
    obtain ⟨hp, g, d, tk, os⟩ := s; obtain ⟨hl1, hl2, h⟩ := h
    have hsub := sub_zip
    have hL1 : Heap.IsTuple (Shared.heap ⟨hp, g, d, tk, os⟩) l1 xs := hl1
    have hL2 : Heap.IsList (Shared.heap ⟨hp.push { cls := .type "tuple_iterator", data := .fields #[.ref l1, .int 0 0] }, g, d, tk, os⟩) l2 ys := Heap.IsList.push hl2 _
    wp_walk using wpAny_pyIter_tuple hL1, wpAny_pyIter_list hL2
    exact ⟨_, rfl, h⟩
section
variable {prog : Program} {w : World} {A : Around} {E : Value → Shared → Prop} {s : Shared}
theorem call_zip {l1 l2 : Addr} {xs ys : Array Value} {Q : Value → Shared → Prop} (hl1 : s.heap.IsTuple l1 xs) (hl2 : s.heap.IsList l2 ys)
    (h : ∀ h', IsZip h' (s.heap.objs.size + 4) (s.heap.objs.size + 2) (s.heap.objs.size + 3) .none → IsPair h' (s.heap.objs.size + 2) (.ref s.heap.objs.size) (.ref (s.heap.objs.size + 1)) →
      IsPair h' (s.heap.objs.size + 3) .none .none → h'.IsTupleIter s.heap.objs.size l1 0 → h'.IsListIter (s.heap.objs.size + 1) l2 0 → h'.objs.size = s.heap.objs.size + 5 →
      (∀ c o, s.heap.get? c = some o → h'.get? c = some o) → Q (.ref (s.heap.objs.size + 4)) { s with heap := h' }) :
    wpAny (model prog w) A (call (.type "zip") [.ref l1, .ref l2]) Q E s := by
  refine callType_new F.called_zip (by decide) (F.typeCall_zip_2 _ _) (F.newCall_zip_2 _ _) (fun obj => F.args_object_init_3 obj _ _) F.entry_zip_new
    (meets_zip_new l1 l2 xs ys) ⟨hl1, hl2, ?_⟩
  have z1 : (mH1 s.heap l1).objs.size = s.heap.objs.size + 1 := Heap.size_push ..
  have z2 : (mH2 s.heap l1 l2).objs.size = s.heap.objs.size + 2 := by rw [Heap.size_push, z1]
  have z3 : (mH3 s.heap l1 l2).objs.size = s.heap.objs.size + 3 := by rw [Heap.size_push, z2]
  have z4 : (mH4 s.heap l1 l2).objs.size = s.heap.objs.size + 4 := by rw [Heap.size_push, z3]
  have z5 : (mH5 s.heap l1 l2).objs.size = s.heap.objs.size + 5 := by rw [Heap.size_push, z4]
  have g5 : (mH5 s.heap l1 l2).get? (mH4 s.heap l1 l2).objs.size = some _ := Heap.get?_push_size _ rfl
  have g4 : (mH5 s.heap l1 l2).get? (mH3 s.heap l1 l2).objs.size = some _ := Heap.get?_push_of_some _ (Heap.get?_push_size _ rfl)
  have g3 : (mH5 s.heap l1 l2).get? (mH2 s.heap l1 l2).objs.size = some _ := Heap.get?_push_of_some _ (Heap.get?_push_of_some _ (Heap.get?_push_size _ rfl))
  have g2 : (mH5 s.heap l1 l2).get? (mH1 s.heap l1).objs.size = some _ := Heap.get?_push_of_some _ (Heap.get?_push_of_some _ (Heap.get?_push_of_some _ (Heap.get?_push_size _ rfl)))
  have g1 : (mH5 s.heap l1 l2).get? s.heap.objs.size = some _ := Heap.get?_push_of_some _ (Heap.get?_push_of_some _ (Heap.get?_push_of_some _ (Heap.get?_push_of_some _ (Heap.get?_push_size _ rfl))))
  show _ ∧ _
  rw [z2, z3, z4] at g5
  rw [z1, z2] at g3
  rw [z3] at g4
  rw [z1] at g2
  rw [z4]
  exact ⟨⟨_, g5, rfl⟩, h _ g5 g3 g4 ⟨_, g1, rfl, rfl⟩ ⟨_, g2, rfl, rfl⟩ z5 fun c o x =>
    Heap.get?_push_of_some _ (Heap.get?_push_of_some _ (Heap.get?_push_of_some _ (Heap.get?_push_of_some _ (Heap.get?_push_of_some _ x))))⟩
/-- list(z), z such a zip just made -/
theorem call_list_zip {Q : Value → Shared → Prop} (hh : A.handled = none) {z TI TO i1 i2 l1 l2 : Addr} {xs ys : Array Value} (D : ZipApart z TI TO i1 i2 l1 l2) (hl : xs.size ≤ ys.size) (hn : xs.size ≤ sizeLine)
    (hz : IsZip s.heap z TI TO .none) (hTI : IsPair s.heap TI (.ref i1) (.ref i2)) (hTO : IsPair s.heap TO .none .none) (h1 : s.heap.IsTupleIter i1 l1 0) (h2 : s.heap.IsListIter i2 l2 0) (hl1 : s.heap.IsTuple l1 xs) (hl2 : s.heap.IsList l2 ys)
    (hQ : ∀ h' acc' c', (∀ b o, b ≠ z → b ≠ TO → b ≠ i1 → b ≠ i2 → s.heap.get? b = some o → h'.get? b = some o) →
      h'.get? s.heap.objs.size = some { cls := .type "list", dict := none, data := .seq acc' c', slots := #[] } → acc'.size = xs.size → (∀ (j k : Nat) (v : Value), acc'[j]? = some v → acc'[k]? = some v → j = k) →
      (∀ (j : Nat) (v : Value), acc'[j]? = some v → ∃ (T : Addr) (x y : Value), v = Value.ref T ∧ xs[j]? = some x ∧ ys[j]? = some y ∧ IsPair h' T x y ∧ s.heap.objs.size < T ∧ T ≠ z ∧ T ≠ TO ∧ T ≠ i1 ∧ T ≠ i2) → Q (.ref s.heap.objs.size) { s with heap := h' }) :
    wpAny (model prog w) A (call (.type "list") [.ref z]) Q E s := by
  refine callType_codes (Q₁ := fun obj s1 => obj = .ref s.heap.objs.size ∧ s1 = { s with heap := s.heap.push { cls := .type "list", data := .seq #[] } }) F.called_list (F.typeCall_list_1 _) F.entry_list_init
    (code_list_new _ ⟨rfl, rfl⟩) fun obj s1 h1' => ?_
  obtain ⟨rfl, rfl⟩ := h1'
  have hS : (s.heap.push { cls := .type "list", data := .seq #[] }).get? s.heap.objs.size = some { cls := .type "list", data := .seq #[] } := Heap.get?_push_size _ rfl
  have hS2 := Heap.get?_update_self (Obj.mapSeq (fun _ => (#[] : Array Value))) hS rfl
  have oth : ∀ b o, b ≠ s.heap.objs.size → (s.heap.push { cls := .type "list", data := .seq #[] }).get? b = some o → ((s.heap.push { cls := .type "list", data := .seq #[] }).update s.heap.objs.size (Obj.mapSeq (fun _ => (#[] : Array Value)))).get? b = some o :=
    fun b o hb e => (Heap.get?_update_other _ _ (Ne.symm hb)).trans e
  have old : ∀ b o, s.heap.get? b = some o → ((s.heap.push { cls := .type "list", data := .seq #[] }).update s.heap.objs.size (Obj.mapSeq (fun _ => (#[] : Array Value)))).get? b = some o :=
    fun b o e => oth b o (Nat.ne_of_lt (Heap.lt_size e)) (Heap.get?_push_of_some _ e)
  refine ⟨⟨_, hS, rfl⟩, F.args_list_init_2 _ _, ?_⟩
  show wpAny _ _ (do let old ← Builtin.List.listItems (.ref s.heap.objs.size); Builtin.List.listUpdate (.ref s.heap.objs.size) (fun _ => #[]); letGo old.toList.reverse; Builtin.List.listExtendWith (.ref s.heap.objs.size) (.ref z) .none) _ _ _
  refine wpAny_bind ?_
  unfold Builtin.List.listItems
  refine wpAny_bind (wpAny_seqItems hS rfl (wpAny_pure ?_))
  show wpAny _ _ (updateSeq s.heap.objs.size (fun _ => #[]) >>= fun _ => letGo (#[] : Array Value).toList.reverse >>= fun _ => Builtin.List.listExtendWith (.ref s.heap.objs.size) (.ref z) .none) _ _ _
  refine wpAny_bind (wpAny_updateSeq hS rfl ?_)
  refine wpAny_bind (wpAny_letGo ?_)
  have gt : ∀ {c o}, s.heap.get? c = some o → s.heap.objs.size ≠ c := fun e => Nat.ne_of_gt (Heap.lt_size e)
  have g1 : ∃ o, s.heap.get? i1 = some o := let ⟨o, ho, _⟩ := h1; ⟨o, ho⟩
  have g2 : ∃ o, s.heap.get? i2 = some o := let ⟨o, ho, _⟩ := h2; ⟨o, ho⟩
  have g3 : ∃ o, s.heap.get? l1 = some o := let ⟨o, ho, _⟩ := hl1; ⟨o, ho⟩
  have g4 : ∃ o, s.heap.get? l2 = some o := let ⟨o, ho, _⟩ := hl2; ⟨o, ho⟩
  refine extend_zip (A := A.in1) hh D ⟨gt hz, gt hTI, gt hTO, let ⟨_, e⟩ := g1; gt e, let ⟨_, e⟩ := g2; gt e, let ⟨_, e⟩ := g3; gt e, let ⟨_, e⟩ := g4; gt e⟩ hl hn .none
    ⟨.inl ⟨rfl, old _ _ hz⟩, old _ _ hTI, ⟨_, _, old _ _ hTO⟩, h1.at fun o => old _ o, h2.at fun o => old _ o, hl1.at fun o => old _ o, hl2.at fun o => old _ o, rfl, fun j k v hv _ => by simp at hv, fun j v hv => by simp at hv⟩ _ hS2 fun h' acc' c' hk hS' hz' hj hm => ?_
  exact ⟨rfl, hQ h' acc' c' (fun b o b1 b2 b3 b4 e => hk b o (Nat.ne_of_lt (Heap.lt_size e)) b1 b2 b3 b4 (old b o e)) hS' hz' hj hm⟩
end
end XZ
namespace L2
open PySem PySem.Spec PyProof.Rows RZ XZ
/-- new tuples, one behind the other -/
def lay (H : Hp) : List (Addr × List V) → Hp
  | [] => H
  | q :: r => upd (lay H r) q.1 (.tup q.2)
theorem lay_out {H : Hp} {b : Addr} : ∀ {l : List (Addr × List V)}, (∀ q ∈ l, q.1 ≠ b) → lay H l b = H b
  | [], _ => rfl
  | q :: r, h => by
    show upd (lay H r) q.1 (.tup q.2) b = H b
    rw [upd_ne (Ne.symm (h q (by simp)))]
    exact lay_out fun q' hq => h q' (by simp [hq])
theorem lay_in {H : Hp} {T : Addr} {vs : List V} : ∀ {l : List (Addr × List V)}, (l.map (·.1)).Nodup → (T, vs) ∈ l → lay H l T = some (.tup vs)
  | q :: r, hn, hm => by
    show upd (lay H r) q.1 (.tup q.2) T = _
    rw [List.map_cons, List.nodup_cons] at hn
    rcases List.mem_cons.mp hm with e | e
    · subst e
      exact upd_same
    · have : T ≠ q.1 := fun z => hn.1 (z ▸ List.mem_map.mpr ⟨_, e, rfl⟩)
      rw [upd_ne this]
      exact lay_in hn.2 e
theorem lay_some {H : Hp} {b : Addr} {u : HO} : ∀ {l : List (Addr × List V)}, lay H l b = some u → (∃ q ∈ l, q.1 = b ∧ u = .tup q.2) ∨ H b = some u
  | [], h => .inr h
  | q :: r, h => by
    by_cases e : b = q.1
    · subst e
      have h' : upd (lay H r) q.1 (.tup q.2) q.1 = some u := h
      rw [upd_same] at h'
      exact .inl ⟨q, by simp, rfl, (Option.some.inj h').symm⟩
    · have h' : upd (lay H r) q.1 (.tup q.2) b = some u := h
      rw [upd_ne e] at h'
      rcases lay_some h' with ⟨q', m, z⟩ | z
      · exact .inl ⟨q', by simp [m], z⟩
      · exact .inr z
section
variable {X : Cx} {pins : List (Addr × Obj)} {σ : List (Option V)} {H H' : Hp} {s : Shared} {h' : Heap}
theorem turnedMany {t' : Nat} {ch : List Addr} (I : Inv X pins σ H s) (k : ∀ b o, b ∉ ch → s.heap.get? b = some o → h'.get? b = some o) (hf : ∀ b ∈ ch, FpOk X pins H b)
    (g : ∀ b u, H b = some u → H' b = some u) (nw : ∀ b u, H' b = some u → H b = some u ∨ (s.heap.objs.size ≤ b ∧ ObjOk X.prog X.w H' h' b u)) : Inv X pins σ H' { s with heap := h', toks := t' } := by
  have nit : ∀ b u, H b = some u → b ∉ ch := fun b u e z => by
    have q := (hf b z).1
    rw [q] at e; cases e
  refine I.step (g' := s.gens) (d' := s.drawn) (ch := ch) (fun b hb => ⟨(hf b hb).2.2.2.1, (hf b hb).2.1, (hf b hb).2.2.2.2.1, (hf b hb).2.2.2.2.2⟩) (fun b o _ _ hc e _ => k b o hc e) (fun b o _ _ hc e _ => ⟨o.slots, k b o hc e⟩)
    (fun b o _ e n => ?_) (fun b o hc e => ⟨o, k b o hc e⟩) (fun b xs e => ?_) (fun b o u e => ?_) (fun b ps e => ⟨#[], ?_⟩) (fun m hm => ?_) (fun b u e => ?_) I.bare
  · cases z : H' b with
    | none => rfl
    | some u =>
      rcases nw b u z with y | ⟨y, _⟩
      · rw [n] at y; cases y
      · exact absurd (Heap.lt_size e) (Nat.not_lt.mpr y)
  · exact g _ _ e
  · exact g _ _ e
  · rw [g _ _ e]; simp
  · obtain ⟨o, es, ep, ho, r⟩ := hm
    exact ⟨o, es, ep, k _ o (fun z => (hf _ z).2.1 rfl) ho, r⟩
  · rcases nw b u e with y | ⟨_, y⟩
    · refine (I.hok b u y).stay (fun c v hc q => k c v ?_ q) (fun c q => g _ _ q) fun c xs q => g _ _ q
      rcases hc with z | z
      · rw [z]; exact nit b u y
      · exact nit c _ z
    · exact y
end
def backA : Value → Addr
  | .ref a => a
  | _ => 0
/-- list(zip(t, xs)): a new list of new pairs -/
def tListZip (K : PySem.W.Frag) (ta : TA) : TE := fun σ H Q => ta σ H fun vs H1 => ∃ (a b : Addr) (xs ys : List V), vs = [.ref a, .ref b] ∧ SqT K H1 a xs ∧ SqL K H1 b ys ∧ xs.length ≤ ys.length ∧
  ∀ H2 q (Ts : List Addr), (∀ b u, H1 b = some u → H2 b = some u) → H1 q = none → H2 q = some (.lst (Ts.map V.ref)) → Ts.length = xs.length → (∀ (j : Nat) (T : Addr), Ts[j]? = some T → ∃ x y, xs[j]? = some x ∧ ys[j]? = some y ∧ H2 T = some (.tup [x, y])) → Q (.ref q) H2
section
variable {X : Cx}
theorem pe_listZip {e e2 : Expr} {ta : TA} {p p2 pos pos2 : Pos} (hc : X.calm = true) (hg : Gl X "list") (hm : X.mg "list" = none) (hg2 : Gl X "zip") (hm2 : X.mg "zip" = none) (ha : PA X [e, e2] ta)
    (hs : starEach [e, e2] X.env = (false, eval e X.env) :: starEach [e2] X.env := by rfl) (hpl : (backTo pos2 (starEach [e2] X.env)).any (·.1) = false := by rfl)
    (hs2 : starEach [.Call (.Name "zip" p2) [e, e2] [] pos2] X.env = (false, eval (.Call (.Name "zip" p2) [e, e2] [] pos2) X.env) :: starEach [] X.env := by rfl) :
    PE X (.Call (.Name "list" p) [.Call (.Name "zip" p2) [e, e2] [] pos2] [] pos) (tListZip X.K ta) := by
  refine ⟨fun pins s σ H Q I h => ?_⟩
  refine Call_ (ld_blt I hg hm boot_list (PyProof.Rows.callWith_type1 (args_cons (Call_ (ld_blt I hg2 hm2 PyProof.Rows.boot_zip (PyProof.Rows.callWith_type1 (thn (ha.run pos2 pins s σ H _ I h) fun us s1 ⟨vs, H1, I1, r1, q1⟩ => ?_) hs hpl))) hs2) hs2 rfl))
  obtain ⟨a, b, xs, ys, ex, hqx, hqy, hl, q⟩ := q1
  subst ex
  cases r1 with
  | cons r rr =>
    cases rr with
    | cons r' rr =>
      cases rr
      cases r
      cases r'
      obtain ⟨its, rv, p1, hz1⟩ := I1.tuple hqx
      obtain ⟨its2, rv2, p2, hz2⟩ := I1.list hqy
      obtain ⟨o1, ho1, _⟩ := id p1
      have lx := rv.length
      have ly := rv2.length
      have hlt2 : b < s1.heap.objs.size := p2.lt
      have D := PySem.W.ktu_apart s1.heap.objs.size a b (Heap.lt_size ho1) hlt2
      refine XZ.call_zip (show s1.heap.IsTuple a its.toArray from p1) p2.isList fun h' hz hTI hTO h1 h2 hsz hk => args_nil ?_
      have I2 : Inv X pins σ H1 { s1 with heap := h' } := I1.kept (t' := s1.toks) hk
      have fresh : ∀ c, s1.heap.objs.size ≤ c → FpOk X pins H1 c := fun c hle => I1.fpOk hle (I1.hok.fresh hle)
      have p1' : Heap.IsTuple h' a its.toArray := let ⟨o, ho, r⟩ := p1; ⟨o, hk _ _ ho, r⟩
      have p2' : Heap.IsList h' b its2.toArray := p2.isList.at fun o => hk _ o
      refine call_list_zip (s := { s1 with heap := h' }) (I1.ok.hd hc) D (by simp only [List.size_toArray]; omega) (by rw [List.size_toArray]; omega) hz hTI hTO h1 h2 p1' p2' fun h'' acc c' hk2 hS hsz2 hinj hm => ?_
      have hsz2 : acc.size = its.length := by rw [hsz2, List.size_toArray]
      have item : ∀ j, j < xs.length → ∃ (T : Addr) (x y : V) (u v : Value), acc[j]? = some (Value.ref T) ∧ xs[j]? = some x ∧ ys[j]? = some y ∧ RelV x u ∧ RelV y v ∧ IsPair h'' T u v ∧ h'.objs.size < T := fun j hj => by
        have hja : j < acc.size := by omega
        obtain ⟨T, u, v, e1, e2, e3, e4, e5, _⟩ := hm j _ (Array.getElem?_eq_getElem hja)
        obtain ⟨u', hu1, hu2⟩ := rv.get (List.getElem?_eq_getElem hj)
        obtain ⟨v', hv1, hv2⟩ := rv2.get (List.getElem?_eq_getElem (l := ys) (i := j) (by omega))
        have e2' : its[j]? = some u := by simpa using e2
        have e3' : its2[j]? = some v := by simpa using e3
        rw [hu1] at e2'
        rw [hv1] at e3'
        obtain rfl := Option.some.inj e2'
        obtain rfl := Option.some.inj e3'
        exact ⟨T, _, _, _, _, by rw [Array.getElem?_eq_getElem hja, e1], List.getElem?_eq_getElem hj, List.getElem?_eq_getElem (by omega), hu2, hv2, e4, e5⟩
      have htl : acc.toList.length = xs.length := by rw [Array.length_toList]; omega
      have hrefs : ∀ u ∈ acc.toList, ∃ a, u = Value.ref a := fun u hu => by
        obtain ⟨j, hj, e⟩ := List.mem_iff_getElem.mp hu
        obtain ⟨T, _, _, _, _, e1, _⟩ := item j (by omega)
        refine ⟨T, ?_⟩
        rw [← Array.getElem?_toList, List.getElem?_eq_getElem hj, e] at e1
        exact Option.some.inj e1
      let Ts : List Addr := acc.toList.map backA
      have hTs : Ts.map V.ref = acc.toList.map backV := by
        show (acc.toList.map backA).map V.ref = _
        rw [List.map_map]
        refine List.map_congr_left fun u hu => ?_
        obtain ⟨a, rfl⟩ := hrefs u hu
        rfl
      have hTl : Ts.length = xs.length := by show (acc.toList.map backA).length = _; rw [List.length_map, htl]
      have getT : ∀ {j : Nat} {T : Addr}, Ts[j]? = some T → acc[j]? = some (Value.ref T) := fun {j T} e => by
        have e' : (acc.toList.map backA)[j]? = some T := e
        rw [List.getElem?_map] at e'
        cases y : acc.toList[j]? with
        | none => rw [y] at e'; cases e'
        | some u =>
          rw [y] at e'
          obtain ⟨a, rfl⟩ := hrefs u (List.mem_of_getElem? y)
          obtain rfl : a = T := Option.some.inj e'
          rw [← Array.getElem?_toList, y]
      have hnd : Ts.Nodup := by
        refine List.pairwise_iff_getElem.mpr fun i j hi hj hij e => ?_
        have e1 := getT (List.getElem?_eq_getElem hi)
        have e2 : acc[j]? = some (Value.ref Ts[i]) := getT (by rw [e, List.getElem?_eq_getElem hj])
        exact absurd (hinj i j _ e1 e2) (by omega)
      let prs : List (List V) := (xs.zip ys).map fun q => [q.1, q.2]
      have hpl : prs.length = xs.length := by show ((xs.zip ys).map fun q => [q.1, q.2]).length = _; rw [List.length_map, List.length_zip]; omega
      let L := Ts.zip prs
      have hL1 : L.map (·.1) = Ts := by
        show (Ts.zip prs).map Prod.fst = Ts
        rw [List.map_fst_zip]
        omega
      have getL : ∀ q ∈ L, ∃ (j : Nat) (x y : V) (u v : Value), Ts[j]? = some q.1 ∧ xs[j]? = some x ∧ ys[j]? = some y ∧ q.2 = [x, y] ∧ RelV x u ∧ RelV y v ∧ IsPair h'' q.1 u v ∧ h'.objs.size < q.1 := fun q hq => by
        obtain ⟨j, hj, e⟩ := List.mem_iff_getElem.mp hq
        have hj1 : j < Ts.length := by have z : j < (Ts.zip prs).length := hj; rw [List.length_zip] at z; omega
        have hj2 : j < prs.length := by omega
        have hj3 : j < xs.length := by omega
        have e' : (Ts[j], prs[j]) = q := by
          rw [← e]
          exact (List.getElem_zip (h := hj)).symm
        obtain ⟨T, x, y, u, v, e1, e2, e3, e4, e5, e6, e7⟩ := item j hj3
        have e8 := getT (List.getElem?_eq_getElem hj1)
        rw [e1] at e8
        obtain rfl : T = Ts[j] := Value.ref.inj (Option.some.inj e8)
        refine ⟨j, x, y, u, v, by rw [← e', List.getElem?_eq_getElem hj1], e2, e3, ?_, e4, e5, by rw [← e']; exact e6, by rw [← e']; exact e7⟩
        rw [← e']
        show prs[j] = [x, y]
        have hj4 : j < ys.length := by omega
        rw [List.getElem?_eq_getElem hj3] at e2
        rw [List.getElem?_eq_getElem hj4] at e3
        have e9 : prs[j] = [xs[j], ys[j]] := by
          show ((xs.zip ys).map fun q => [q.1, q.2])[j] = _
          rw [List.getElem_map, List.getElem_zip]
        rw [e9, Option.some.inj e2, Option.some.inj e3]
      have hSfresh : H1 h'.objs.size = none := I1.hok.fresh (by omega)
      let H2 : Hp := upd (lay H1 L) h'.objs.size (.lst (Ts.map V.ref))
      have neS : ∀ q ∈ L, q.1 ≠ h'.objs.size := fun q hq => by
        obtain ⟨_, _, _, _, _, _, _, _, _, _, _, _, z⟩ := getL q hq
        exact Nat.ne_of_gt z
      have g : ∀ b u, H1 b = some u → H2 b = some u := fun b u e => by
        have hb : b < s1.heap.objs.size := (I1.hok b u e).lt
        show upd (lay H1 L) h'.objs.size _ b = _
        have hb2 : b < h'.objs.size := Nat.lt_of_lt_of_le hb (by show s1.heap.objs.size ≤ h'.objs.size; rw [hsz]; exact Nat.le_add_right _ _)
        rw [upd_ne (Nat.ne_of_lt hb2), lay_out, e]
        intro q hq z
        obtain ⟨_, _, _, _, _, _, _, _, _, _, _, _, y⟩ := getL q hq
        rw [z] at y
        exact absurd (Nat.lt_trans hb2 y) (Nat.lt_irrefl _)
      have eT : ∀ q ∈ L, H2 q.1 = some (.tup q.2) := fun q hq => by
        show upd (lay H1 L) h'.objs.size _ q.1 = _
        rw [upd_ne (neS q hq)]
        exact lay_in (by rw [hL1]; exact hnd) hq
      have eS : H2 h'.objs.size = some (.lst (Ts.map V.ref)) := upd_same
      refine ⟨.ref _, H2, turnedMany I2 (t' := s1.toks) (ch := [s1.heap.objs.size + 4, s1.heap.objs.size + 3, s1.heap.objs.size, s1.heap.objs.size + 1]) (fun c o hb e => hk2 c o (fun z => hb (by simp [z])) (fun z => hb (by simp [z])) (fun z => hb (by simp [z])) (fun z => hb (by simp [z])) e)
        (fun c hcm => fresh c ?_) g (fun c u e => ?_), rfl, q H2 _ Ts g hSfresh eS hTl fun j T hT => ?_⟩
      · have e' : c = s1.heap.objs.size + 4 ∨ c = s1.heap.objs.size + 3 ∨ c = s1.heap.objs.size ∨ c = s1.heap.objs.size + 1 := by simpa using hcm
        rcases e' with z | z | z | z <;> rw [z] <;> first | exact Nat.le_add_right _ _ | exact Nat.le_refl _
      · by_cases hcS : c = h'.objs.size
        · subst hcS
          rw [eS] at e
          obtain rfl := Option.some.inj e
          refine .inr ⟨Nat.le_refl _, by rw [List.length_map, hTl]; exact hz1, acc.toList, c', by rw [hTs]; exact vals_back hrefs, ?_⟩
          rw [Array.toArray_toList]
          exact hS
        · have e' : lay H1 L c = some u := by
            have z : upd (lay H1 L) h'.objs.size (.lst (Ts.map V.ref)) c = some u := e
            rwa [upd_ne hcS] at z
          rcases lay_some e' with ⟨q, hq, rfl, rfl⟩ | z
          · obtain ⟨j, x, y, u, v, _, _, _, e4, e5, e6, e7, e8⟩ := getL q hq
            refine .inr ⟨Nat.le_of_lt e8, ?_⟩
            rw [e4]
            exact ⟨by show 2 ≤ sizeLine; decide, [u, v], .cons e5 (.cons e6 .nil), ⟨_, e7, rfl, _, rfl⟩⟩
          · exact .inl z
      · have hj : j < Ts.length := (List.getElem?_eq_some_iff.mp hT).1
        have hmem : (T, prs[j]) ∈ L := by
          have hjL : j < L.length := by show j < (Ts.zip prs).length; rw [List.length_zip]; omega
          have z : L[j] = (Ts[j], prs[j]) := List.getElem_zip
          rw [List.getElem?_eq_getElem hj] at hT
          rw [← Option.some.inj hT, ← z]
          exact List.getElem_mem hjL
        obtain ⟨k, x, y, u, v, e1, e2, e3, e4, _⟩ := getL _ hmem
        have hkj : k = j := by
          have hk : k < Ts.length := (List.getElem?_eq_some_iff.mp e1).1
          exact hinj k j _ (getT e1) (getT hT)
        subst hkj
        refine ⟨x, y, e2, e3, ?_⟩
        have z := eT _ hmem
        rw [e4] at z
        exact z
end
end L2
set_option Elab.async false
set_option linter.all false
set_option maxRecDepth 100000
set_option maxHeartbeats 2000000
namespace K01
open PySem PySem.Spec PyProof.Rows L2
/-! ### the text -/
def top (i : Nat) : Stmt := PySem.Challenge.pw_treesays_k01_shapes_and_their_texts.main.body.getD i (.Pass ⟨0, 0, 0, 0⟩)
theorem same_new {H : Hp} {p : Addr} {o : HO} (h : H p = none) : Same H (upd H p o) := fun b u q => by rw [upd_ne (ne_of_none q h)]; exact q
theorem same_fresh {H H1 : Hp} {D : Addr} {o : HO} (hD : H D = none) (g : Same H H1) : Same H (upd H1 D o) := fun b u q => by rw [upd_ne (ne_of_none q hD)]; exact g b u q
theorem yes_turn {σ : L2.St} {H : Hp} {A B : Hp → Prop} (h : A H) : tYes σ H fun b H3 => if b = true then A H3 else B H3 := by
  show if true = true then A H else B H
  rw [if_pos rfl]
  exact h
theorem small {n : Nat} (h : n ≤ 1000) : n ≤ sizeLine := Nat.le_of_lt (small1000 h)
/-! ### the tape -/
abbrev sTape : Stmt := top 24
abbrev sTake : Stmt := top 25
theorem scTape : FnScope ["script", "cell", "cells", "seed"] ["script"] (defScope sTape) := ⟨rfl, rfl, rfl, by decide +kernel, rfl, by decide +kernel, by decide +kernel⟩
theorem scTake : FnScope ["tape", "many", "drawn", "mixed"] ["tape", "many"] (defScope sTake) := ⟨rfl, rfl, rfl, by decide +kernel, rfl, by decide +kernel, by decide +kernel⟩
/-- a tape at t: whatever it holds, it may be drawn from -/
structure TapeAt (H : Hp) (t : Addr) (kvs : List (Key × V)) (c : Addr) : Prop where
  dict : H t = some (.dK kvs)
  len : kvs.length ≤ 5
  cells : valV kvs (Sum.inr "cells") = some (.ref c)
  list : ∃ ns : List Int, H c = some (.lst (ns.map V.int)) ∧ ns.length ≤ 1000
  «at» : ∃ z : Int, valV kvs (Sum.inr "at") = some (.int z) ∧ 0 ≤ z
  left : ∃ z : Int, valV kvs (Sum.inr "left") = some (.int z)
  seed : ∃ z : Int, valV kvs (Sum.inr "seed") = some (.int z)
  salt : ∃ z : Int, valV kvs (Sum.inr "salt") = some (.int z)
def TapeOk (H : Hp) (t : Addr) : Prop := ∃ kvs c, TapeAt H t kvs c
def spTape (K : PySem.W.Frag) : Sp := fun vs H Q _ => ∃ (a : Addr) (ns : List Int), vs = [.ref a] ∧ SqL K H a (ns.map V.int) ∧ ns.length ≤ 63 ∧ ∀ H' t, Same H H' → H t = none → TapeOk H' t → Q (.ref t) H'
section
variable {P : Program} {w : World} {K : PySem.W.Frag} {mg : Str → Option Value} {base : Heap}
theorem ok_tape {f : Addr} {fd : FuncData} {k : Nat} (F : Fun K "_law_tape" "_law_tape" sTape f fd) (ma : mg "abs" = none) (mi : mg "int" = none) : FnOk P w K mg base CX0 (k + 1) f fd ["script"] (spTape K) := by
  refine F.ok scTape (fun vs H Q E h => ?_) (fun cdv A outer s H vs Q E hr h => ?_)
  · obtain ⟨a, ns, rfl, _⟩ := h
    rfl
  obtain ⟨a, ns, rfl, hS, hlen, q⟩ := h
  have hu := hu_of hr
  refine ⟨_, pss_cons (ps_setLc (i := 2) (own := [("cell", 1)]) (g := gName 1) (tt := tYes) rfl scTape.nd rfl rfl (sw_true rfl rfl rfl (by decide +kernel)) (pi_list (pv 0))
      (blkOk_by (own := [("cell", 1)]) (N := ["script", "cell", "cells", "seed"]) (sc := defScope sTape) (by decide +kernel)) (fun _ _ _ _ _ => pg_name (i := 1) scTape.nd rfl (Or.inl rfl)) (fun _ _ _ _ _ => pts_nil)
      (fun _ _ _ _ _ => pe_callB call_abs (by rfl) ma (by decide +kernel) (pa_cons (pe_callTy call_int1 (by rfl) mi (by decide +kernel) (pa_cons (pv 1) pa_nil)) pa_nil)))
    (pss_cons (ps_set (i := 3) scTape.nd rfl (Or.inl rfl) pe_int)
    (pss_cons (ps_for PassesOwn.never rfl (pi_list (pv 2)) (pg_name (i := 1) scTape.nd rfl (Or.inl rfl))
      (pss_one (ps_set (i := 3) scTape.nd rfl (Or.inl rfl) (pe_op op_modN (pe_callTy call_int1 (by rfl) mi (by decide +kernel) (pa_cons (pe_op op_add (pe_op op_mul (pv 3) pe_int) (pv 1)) pa_nil)) pe_int))))
    (pss_one (ps_ret (pe_disp (pps_cons pe_str (pv 2) (pps_cons pe_str pe_int (pps_cons pe_str pe_int (pps_cons pe_str (pv 3) (pps_cons pe_str pe_int pps_nil))))) (by rfl) (by rfl) (fun z => by cases z) (by decide)))))), ?_⟩
  refine ⟨.ref a, rfl, a, rfl, ⟨_, hS⟩, fun D hD => ?_⟩
  have g0 : Same H (upd H D (.lst [])) := same_new hD
  refine lc_list (K := K) (a := a) (xs := ns.map V.int) (fun i H1 => ∃ ms : List Int, ms.length = i ∧ Same H H1 ∧ H1 D = some (.lst (ms.map V.int))) ⟨[], rfl, g0, upd_same⟩ (fun i H1 hi p => ?_) (fun i x H1 hx p => ?_) fun H1 p => ?_
  · obtain ⟨ms, e, g, e2⟩ := p
    exact g.seq hS
  · obtain ⟨ms, e, g, e2⟩ := p
    have hi := (List.getElem?_eq_some_iff.mp hx).1
    rw [List.length_map] at hi
    obtain ⟨z, rfl⟩ : ∃ z, x = V.int z := by
      rw [List.getElem?_map] at hx
      cases hq : ns[i]? with
      | none => rw [hq] at hx; cases hx
      | some z => rw [hq] at hx; exact ⟨z, (Option.some.inj hx).symm⟩
    refine ⟨rfl, yes_turn ?_⟩
    refine ⟨V.int z, rfl, .inl ⟨z, rfl, z, rfl, _, e2, by rw [List.length_map]; exact Nat.lt_of_le_of_lt (show ms.length ≤ 63 by omega) (small1000 (by omega)), ms ++ [if z < 0 then -z else z], by rw [List.length_append, e] <;> rfl, same_fresh hD g, ?_⟩⟩
    rw [upd_same, List.map_append] <;> rfl
  · obtain ⟨ms, e, g, e2⟩ := p
    rw [List.length_map] at e
    refine ⟨.ref D, rfl, D, rfl, ⟨_, SqL.of e2⟩, ?_⟩
    refine for_list (xs := ms.map V.int) (fun i σ H2 => ∃ (y : Option V) (z : Int), σ = [some (.ref a), y, some (.ref D), some (.int z)] ∧ H2 = H1) ⟨none, 7, rfl, rfl⟩ (fun i σ H2 hi p => ?_) (fun i x σ H2 hx p => ?_) fun σ H2 p => ?_
    · obtain ⟨y, z, rfl, rfl⟩ := p
      exact SqL.of e2
    · obtain ⟨y, z, rfl, rfl⟩ := p
      obtain ⟨z2, rfl⟩ : ∃ z, x = V.int z := by
        rw [List.getElem?_map] at hx
        cases hq : ms[i]? with
        | none => rw [hq] at hx; cases hx
        | some z => rw [hq] at hx; exact ⟨z, (Option.some.inj hx).symm⟩
      refine ⟨V.int z, rfl, _, _, rfl, rfl, .inr ⟨by decide, by decide⟩, V.int z2, rfl, _, _, rfl, rfl, .inl ⟨_, rfl, _, _, rfl, rfl, (by show (2147483647 : Int) ≠ 0; decide), _, _, rfl, rfl⟩⟩
    · obtain ⟨y, z, rfl, rfl⟩ := p
      refine fun t ht => ?_
      have ht0 : H t = none := g.free ht
      have hDt : D ≠ t := ne_of_none e2 ht
      refine ⟨.ref D, rfl, .int z, rfl, upd_same, [(Sum.inr "cells", .ref D), (Sum.inr "at", .int 0), (Sum.inr "left", .int 0), (Sum.inr "seed", .int z), (Sum.inr "salt", .int 0)], rfl, (by show 5 ≤ 15; decide), ?_⟩
      refine q _ t (same_fresh ht0 (same_fresh ht0 g)) ht0 ⟨_, D, upd_same, (by show 5 ≤ 5; decide), rfl, ⟨ms, by rw [upd_ne hDt, upd_ne hDt]; exact e2, by omega⟩, ⟨0, rfl, Int.le_refl 0⟩, ⟨0, rfl⟩, ⟨z, rfl⟩, ⟨0, rfl⟩⟩
end
end K01
set_option Elab.async false
set_option linter.all false
set_option maxRecDepth 100000
set_option maxHeartbeats 2000000
namespace K01
open PySem PySem.Spec PyProof.Rows L2
/-- all but t stays -/
def But (t : Addr) (H H' : Hp) : Prop := ∀ b o, b ≠ t → H b = some o → H' b = some o
theorem But.refl (t : Addr) (H : Hp) : But t H H := fun _ _ _ h => h
theorem But.upd {t : Addr} {H H1 : Hp} {o : HO} (g : But t H H1) : But t H (upd H1 t o) := fun b u hb q => by rw [upd_ne hb]; exact g b u hb q
theorem But.trans {t : Addr} {H H1 H2 : Hp} (g : But t H H1) (g' : But t H1 H2) : But t H H2 := fun b u hb q => g' b u hb (g b u hb q)
theorem But.of {t : Addr} {H H1 : Hp} (g : Same H H1) : But t H H1 := fun b u _ q => g b u q
theorem TapeAt.put {H : Hp} {t c : Addr} {kvs : List (Key × V)} (T : TapeAt H t kvs c) (x : Str) (z : Int) (hx : x = "at" ∨ x = "left" ∨ x = "seed" ∨ x = "salt") (h0 : x = "at" → 0 ≤ z) : TapeAt (upd H t (.dK (putK kvs (Sum.inr x) (.int z)))) t (putK kvs (Sum.inr x) (.int z)) c := by
  have hct : c ≠ t := by
    obtain ⟨ns, e, _⟩ := T.list
    intro z
    rw [z, T.dict] at e
    cases e
  have hin : (valV kvs (Sum.inr x : Key)).isSome = true := by
    rcases hx with e | e | e | e
    · obtain ⟨z, e1, _⟩ := T.at; rw [e, e1]; rfl
    · obtain ⟨z, e1⟩ := T.left; rw [e, e1]; rfl
    · obtain ⟨z, e1⟩ := T.seed; rw [e, e1]; rfl
    · obtain ⟨z, e1⟩ := T.salt; rw [e, e1]; rfl
  have hl : (putK kvs (Sum.inr x : Key) (.int z)).length = kvs.length := by
    unfold putK
    rw [valV_any, hin, if_pos rfl, List.length_map]
  have oth : ∀ y : Str, ∀ v, valV kvs (Sum.inr y : Key) = some v → y ≠ x → valV (putK kvs (Sum.inr x : Key) (.int z)) (Sum.inr y : Key) = some v := fun y v e hy => by
    rw [valV_put, if_neg (fun q => hy (Sum.inr.inj q))]
    exact e
  have int : ∀ y : Str, (∃ v : Int, valV kvs (Sum.inr y : Key) = some (.int v)) → ∃ v : Int, valV (putK kvs (Sum.inr x : Key) (.int z)) (Sum.inr y : Key) = some (.int v) := fun y ⟨v, e⟩ => by
    by_cases hy : y = x
    · exact ⟨z, by rw [valV_put, if_pos (by rw [hy])]⟩
    · exact ⟨v, oth y _ e hy⟩
  refine ⟨upd_same, by rw [hl]; exact T.len, oth _ _ T.cells ?_, ?_, ?_, int _ T.left, int _ T.seed, int _ T.salt⟩
  · rcases hx with e | e | e | e <;> rw [e] <;> decide
  · obtain ⟨ns, e, hn⟩ := T.list
    exact ⟨ns, by rw [upd_ne hct]; exact e, hn⟩
  · obtain ⟨v, e, hv⟩ := T.at
    by_cases hy : x = "at"
    · exact ⟨z, by rw [valV_put, if_pos (by rw [hy])], h0 hy⟩
    · exact ⟨v, oth _ _ e (fun q => hy q.symm), hv⟩
/-- the same, the list of cells known -/
def TapeC (H : Hp) (t c : Addr) : Prop := ∃ kvs, TapeAt H t kvs c
def spTakeC : Sp := fun vs H Q _ => ∃ (t c : Addr) (m : Int), vs = [.ref t, .int m] ∧ TapeC H t c ∧ 0 < m ∧ m < 1073741824 ∧ ∀ H' z, But t H H' → TapeC H' t c → 0 ≤ z → z < m → Q (.int z) H'
def spTake : Sp := fun vs H Q _ => ∃ (t : Addr) (m : Int), vs = [.ref t, .int m] ∧ TapeOk H t ∧ 0 < m ∧ m < 1073741824 ∧ ∀ H' z, But t H H' → TapeOk H' t → 0 ≤ z → z < m → Q (.int z) H'
theorem fmod_in {x m : Int} (h : 0 < m) : 0 ≤ x.fmod m ∧ x.fmod m < m := by
  rw [Int.fmod_eq_emod_of_nonneg x (Int.le_of_lt h)]
  exact ⟨Int.emod_nonneg _ (by omega), Int.emod_lt_of_pos _ h⟩
theorem mem_len {l : List (Key × V)} (h : l.length ≤ 5) : l.length < sizeLine := Nat.lt_of_le_of_lt (show l.length ≤ 1000 by omega) (by decide)
section
variable {P : Program} {w : World} {K : PySem.W.Frag} {mg : Str → Option Value} {base : Heap}
theorem ok_takeC {f : Addr} {fd : FuncData} {k : Nat} (F : Fun K "_law_take" "_law_take" sTake f fd) (ml : mg "len" = none) (mi : mg "int" = none) : FnOk P w K mg base CX0 (k + 1) f fd ["tape", "many"] spTakeC := by
  refine F.ok scTake (fun vs H Q E h => ?_) (fun cdv A outer s H vs Q E hr h => ?_)
  · obtain ⟨t, c, m, rfl, _⟩ := h
    rfl
  obtain ⟨t, c, m, rfl, hT, hm, hm2, q⟩ := h
  have hu := hu_of hr
  refine ⟨_, C8.pss_cut (ps_if (PW.pt (pw_and (pt_cmpR op_eq (pe_dget hu (pv 0) pe_str (fun _ _ => rfl)) pe_int (nomark _))
        (pw_and1 (pt_cmpR op_lt (pe_dget hu (pv 0) pe_str (fun _ _ => rfl)) (pe_callB call_len_seq (by rfl) ml PySem.boot_len (pa_cons (pe_dget hu (pv 0) pe_str (fun _ _ => rfl)) pa_nil)) (nomark _)))))
      (pss_cons (ps_dput hu (pv 0) pe_str (pe_ix ix_list (pe_dget hu (pv 0) pe_str (fun _ _ => rfl)) (pe_dget hu (pv 0) pe_str (fun _ _ => rfl)) (fun _ _ => rfl)) rfl)
        (pss_one (ps_dput hu (pv 0) pe_str (pe_op op_add (pe_dget hu (pv 0) pe_str (fun _ _ => rfl)) pe_int) rfl))) pss_nil)
    (pss_cons (ps_if (pt_cmpR op_gt (pe_dget hu (pv 0) pe_str (fun _ _ => rfl)) pe_int (nomark _))
      (pss_cons (ps_set (i := 2) scTake.nd rfl (Or.inl rfl) (pe_op op_modN (pe_callTy call_int1 (by rfl) mi (by decide +kernel) (pa_cons (pe_dget hu (pv 0) pe_str (fun _ _ => rfl)) pa_nil)) (pv 1)))
        (pss_cons (ps_dput hu (pv 0) pe_str (pe_op op_fdivN (pe_dget hu (pv 0) pe_str (fun _ _ => rfl)) (pv 1)) rfl)
          (pss_one (ps_ret (pv 2))))) pss_nil)
    (pss_cons (ps_dput hu (pv 0) pe_str (pe_op op_add (pe_dget hu (pv 0) pe_str (fun _ _ => rfl)) pe_int) rfl)
    (pss_cons (ps_set (i := 3) scTake.nd rfl (Or.inl rfl) (pe_op op_modN (pe_callTy call_int1 (by rfl) mi (by decide +kernel) (pa_cons (pe_op op_add (pe_op op_mul (pe_dget hu (pv 0) pe_str (fun _ _ => rfl)) pe_int) (pe_op op_mul (pe_dget hu (pv 0) pe_str (fun _ _ => rfl)) pe_int)) pa_nil)) pe_int))
    (pss_cons (ps_set (i := 3) scTake.nd rfl (Or.inl rfl) (pe_op op_modN (pe_callTy call_int1 (by rfl) mi (by decide +kernel) (pa_cons (pe_op op_add (pe_op op_add (pe_op op_mul (pv 3) (pv 3)) (pe_op op_mul (pe_dget hu (pv 0) pe_str (fun _ _ => rfl)) pe_int)) pe_int) pa_nil)) pe_int))
    (pss_one (ps_ret (pe_op op_modN (pe_callTy call_int1 (by rfl) mi (by decide +kernel) (pa_cons (pv 3) pa_nil)) (pv 1)))))))), ?_⟩
  obtain ⟨kvs, T⟩ := hT
  have get : ∀ {H1 : Hp} {kvs : List (Key × V)} {x : Str} {v : V}, H1 t = some (.dK kvs) → valV kvs (Sum.inr x : Key) = some v → DGet H1 t (.str x) (some v) := fun {H1 kvs x v} e1 e2 => by
    have z := DGet.k (k := Sum.inr x) e1
    rw [e2] at z
    exact z
  refine ⟨fun σ' H' => σ' = L2.start ["tape", "many", "drawn", "mixed"] [.ref t, .int m] ∧ But t H H' ∧ TapeC H' t c, ?_, ?_⟩
  · obtain ⟨zl, el⟩ := T.left
    refine ⟨.ref t, rfl, t, _, rfl, get T.dict el, ?_⟩
    refine ⟨rfl, _, rfl, ?_⟩
    refine ite2 (fun c1 => ?_) (fun c1 => ?_)
    · obtain ⟨za, ea, h0⟩ := T.at
      obtain ⟨ns, en, hn⟩ := T.list
      refine ⟨.ref t, rfl, t, _, rfl, get T.dict ea, .ref t, rfl, t, _, rfl, get T.dict T.cells, c, _, rfl, .inl (SqL.of en), _, _, rfl, rfl, _, rfl, ?_⟩
      refine ite2 (fun c2 => ?_) (fun c2 => ?_)
      · have c2' := of_decide_eq_true c2
        rw [List.length_map] at c2'
        have hz : za.toNat < ns.length := by omega
        have ez : za = ((za.toNat : Nat) : Int) := by omega
        have hat : atI (ns.map V.int) za = some (.int ns[za.toNat]) := at_of ez (by rw [List.getElem?_map, List.getElem?_eq_getElem hz] <;> rfl)
        refine ⟨.ref t, rfl, t, _, rfl, get T.dict T.cells, .ref t, rfl, t, _, rfl, get T.dict ea, c, _, _, _, rfl, rfl, SqL.of en, hat, .ref t, rfl, t, _, rfl, DPut.k (k := Sum.inr "left") T.dict (mem_len T.len), ?_⟩
        have T1 := T.put "left" ns[za.toNat] (.inr (.inl rfl)) (fun z => by cases z)
        obtain ⟨za1, ea1, h01⟩ := T1.at
        refine ⟨.ref t, rfl, t, _, rfl, get T1.dict ea1, _, _, rfl, rfl, .ref t, rfl, t, _, rfl, DPut.k (k := Sum.inr "at") T1.dict (mem_len T1.len), ?_⟩
        have T2 := T1.put "at" (za1 + 1) (.inl rfl) (fun _ => by omega)
        exact ⟨rfl, (But.refl t H).upd.upd, _, T2⟩
      · exact ⟨rfl, But.refl t H, _, T⟩
    · exact ⟨rfl, But.refl t H, _, T⟩
  · rintro σ' H1 ⟨rfl, g1, kvs1, T1⟩
    obtain ⟨zl, el⟩ := T1.left
    refine ⟨.ref t, rfl, t, _, rfl, get T1.dict el, _, _, rfl, rfl, _, rfl, ?_⟩
    refine ite2 (fun d1 => ?_) (fun d1 => ?_)
    · refine ⟨.ref t, rfl, t, _, rfl, get T1.dict el, .inl ⟨_, rfl, .int m, rfl, _, _, rfl, rfl, (by show m ≠ 0; omega), ?_⟩⟩
      refine ⟨.ref t, rfl, t, _, rfl, get T1.dict el, .int m, rfl, _, _, rfl, rfl, ⟨(by show m ≠ 0; omega), (by show m.natAbs < 1073741824; omega)⟩, .ref t, rfl, t, _, rfl, DPut.k (k := Sum.inr "left") T1.dict (mem_len T1.len), ?_⟩
      have T2 := T1.put "left" (zl.fdiv m) (.inr (.inl rfl)) (fun z => by cases z)
      have hb := fmod_in (x := zl) hm
      exact ⟨_, rfl, q _ _ g1.upd ⟨_, T2⟩ hb.1 hb.2⟩
    · obtain ⟨zs, es⟩ := T1.salt
      refine ⟨.ref t, rfl, t, _, rfl, get T1.dict es, _, _, rfl, rfl, .ref t, rfl, t, _, rfl, DPut.k (k := Sum.inr "salt") T1.dict (mem_len T1.len), ?_⟩
      have T2 := T1.put "salt" (zs + 1) (.inr (.inr (.inr rfl))) (fun z => by cases z)
      obtain ⟨ze, ee⟩ := T2.seed
      obtain ⟨zs2, es2⟩ := T2.salt
      refine ⟨.ref t, rfl, t, _, rfl, get T2.dict ee, _, _, rfl, rfl, .inr ⟨by decide, by decide⟩, .ref t, rfl, t, _, rfl, get T2.dict es2, _, _, rfl, rfl, .inr ⟨by decide, by decide⟩, _, _, rfl, rfl, .inl ⟨_, rfl, _, _, rfl, rfl, (by show (2147483647 : Int) ≠ 0; decide), ?_⟩⟩
      have hb := fmod_in (x := ze * 48271 + zs2 * 69621) (m := 2147483647) (by decide)
      refine ⟨_, rfl, _, rfl, _, _, rfl, rfl, .inl ⟨by have := hb.1; show -(2 ^ 64) < _; omega, by have := hb.2; show _ < (2 ^ 64 : Int); omega⟩, .ref t, rfl, t, _, rfl, get T2.dict es2, _, _, rfl, rfl, .inr ⟨by decide, by decide⟩, _, _, rfl, rfl, _, _, rfl, rfl, .inl ⟨_, rfl, _, _, rfl, rfl, (by show (2147483399 : Int) ≠ 0; decide), ?_⟩⟩
      refine ⟨_, rfl, .inl ⟨_, rfl, .int m, rfl, _, _, rfl, rfl, (by show m ≠ 0; omega), ?_⟩⟩
      exact q _ _ g1.upd ⟨_, T2⟩ (fmod_in hm).1 (fmod_in hm).2
theorem ok_take {f : Addr} {fd : FuncData} {k : Nat} (F : Fun K "_law_take" "_law_take" sTake f fd) (ml : mg "len" = none) (mi : mg "int" = none) : FnOk P w K mg base CX0 (k + 1) f fd ["tape", "many"] spTake :=
  (ok_takeC F ml mi).imp fun vs H Q E h => by
    obtain ⟨t, m, rfl, ⟨kvs, c, T⟩, hm, hm2, q⟩ := h
    exact ⟨t, c, m, rfl, ⟨kvs, T⟩, hm, hm2, fun H' z b ⟨kvs', T'⟩ => q H' z b ⟨kvs', c, T'⟩⟩
end
end K01
set_option Elab.async false
set_option linter.all false
set_option maxRecDepth 100000
set_option maxHeartbeats 2000000
namespace K01
open PySem PySem.Spec PyProof.Rows L2
/-! ### isinstance(e, T), T a built-in class -/
def tIsi (K : PySem.W.Frag) (te : TE) (T : String) : TE := fun σ H Q => te σ H fun x H1 => rIsi K [x, .ty T] H1 Q
theorem pe_isi {X : Cx} {e : Expr} {te : TE} {n : Str} {T : String} {p1 p2 p3 : Pos} (he : PE X e te) (mi : X.mg "isinstance" = none) (mT : X.mg n = none) (bT : bootBuiltins n = some (.type T)) (gi : Gl X "isinstance" := by rfl) (gT : Gl X n := by rfl) (hn : n ≠ "__name__" := by decide)
    (hd : (n == ("__debug__" : Str)) = false := by decide) (hs1 : starEach (e :: [.Name n p2]) X.env = (false, eval e X.env) :: starEach [.Name n p2] X.env := by rfl) (hs2 : starEach [.Name n p2] X.env = (false, eval (.Name n p2) X.env) :: starEach [] X.env := by rfl)
    (hpl : (backTo p3 (starEach [.Name n p2] X.env)).any (·.1) = false := by rfl) :
    PE X (.Call (.Name "isinstance" p1) [e, .Name n p2] [] p3) (tIsi X.K te T) :=
  pe_callB (X := X) (p := p1) (pos := p3) call_isi gi mi (by decide +kernel) (pa_cons he (pa_cons (pe_bltn (v := .ty T) (pos := p2) gT mT bT rfl hn hd) pa_nil hs2) hs1) (he := hs1) (hpl := hpl)
theorem isi {K : PySem.W.Frag} {H : Hp} {x : V} {a T : String} {b : Bool} {Q : VK} (h1 : TyX K H x (.type a)) (h2 : kitB a T = some b) (q : Q (.bl b) H) : rIsi K [x, .ty T] H Q :=
  ⟨x, .ty T, .type a, .type T, b, rfl, .ty T, h1, kit_ty h2, q⟩
theorem ifF {c A B : Prop} [Decidable c] (hc : ¬ c) (h : B) : if decide c = true then A else B := by
  rw [decide_eq_false hc]
  exact iteF h
theorem ifT {c A B : Prop} [Decidable c] (hc : c) (h : A) : if decide c = true then A else B := by
  rw [decide_eq_true hc]
  exact iteT h
theorem iteF' {A B : Prop} (h : B) : if false = true then A else B := iteF h
theorem iteT' {A B : Prop} (h : A) : if true = true then A else B := iteT h
theorem iteNT {A B : Prop} (h : B) : if (!true) = true then A else B := iteF h
theorem rix {K : PySem.W.Frag} {H : Hp} {p : Addr} {xs : List V} {i : Int} {v : V} {Q : VK} (h : SqL K H p xs ∨ SqT K H p xs) (e : atI xs i = some v) (q : Q v H) : rIx K (.ref p) (.int i) H Q := by
  rcases h with h | h
  · exact .inl ⟨p, xs, i, v, rfl, rfl, h, e, q⟩
  · exact .inr (.inl ⟨p, xs, i, v, rfl, rfl, h, e, q⟩)
theorem ty_tup {K : PySem.W.Frag} {H : Hp} {a : Addr} {xs : List V} (h : SqT K H a xs) : TyX K H (.ref a) (.type "tuple") := by
  rcases h with (h | ⟨o, h⟩) | ⟨o, _, _, h, c, _⟩
  · exact .base (.tup h)
  · exact .fTuple h
  · exact .kTuple h c
theorem ty_lst {K : PySem.W.Frag} {H : Hp} {a : Addr} {xs : List V} (h : SqL K H a xs) : TyX K H (.ref a) (.type "list") := by
  rcases h with (h | ⟨o, h⟩) | ⟨o, _, _, h, c, _⟩
  · exact .base (.lst h)
  · exact .base (.frz h)
  · exact .kList h c
theorem ty_str {K : PySem.W.Frag} {H : Hp} (x : Str) : TyX K H (.str x) (.type "str") := .base (.str x)
theorem ty_int {K : PySem.W.Frag} {H : Hp} (x : Int) : TyX K H (.int x) (.type "int") := .base (.int x)
/-! ### two values that hold the same -/
inductive Eqd (K : PySem.W.Frag) (H : Hp) : Nat → V → V → Prop where
  | str (n : Nat) (x : Str) : Eqd K H (n + 1) (.str x) (.str x)
  | int (n : Nat) (x : Int) : Eqd K H (n + 1) (.int x) (.int x)
  | bl (n : Nat) (x : Bool) : Eqd K H (n + 1) (.bl x) (.bl x)
  | tup {n : Nat} {a b : Addr} {xs ys : List V} (h1 : SqT K H a xs) (h2 : SqT K H b ys) (hl : xs.length = ys.length) (hz : ys.length ≤ 1000) (h : ∀ (i : Nat) (x y : V), xs[i]? = some x → ys[i]? = some y → Eqd K H n x y) : Eqd K H (n + 1) (.ref a) (.ref b)
  | lst {n : Nat} {a b : Addr} {xs ys : List V} (h1 : SqL K H a xs) (h2 : SqL K H b ys) (hl : xs.length = ys.length) (hz : ys.length ≤ 1000) (h : ∀ (i : Nat) (x y : V), xs[i]? = some x → ys[i]? = some y → Eqd K H n x y) : Eqd K H (n + 1) (.ref a) (.ref b)
theorem ty_bl {K : PySem.W.Frag} {H : Hp} (x : Bool) : TyX K H (.bl x) (.type "bool") := .base (.bl x)
abbrev sLInt : Stmt := top 26
theorem scLInt : FnScope ["actual"] ["actual"] (defScope sLInt) := ⟨rfl, rfl, rfl, by decide +kernel, rfl, by decide +kernel, by decide +kernel⟩
def spLInt : Sp := fun vs H Q _ => ∃ z : Int, vs = [.int z] ∧ Q (.bl true) H
section
variable {P : Program} {w : World} {K : PySem.W.Frag} {mg : Str → Option Value} {base : Heap}
theorem ok_lint {f : Addr} {fd : FuncData} {k : Nat} (F : Fun K "_law_is_integer" "_law_is_integer" sLInt f fd) (mi : mg "isinstance" = none) (mb : mg "bool" = none) (mn : mg "int" = none) : FnOk P w K mg base CX0 (k + 1) f fd ["actual"] spLInt := by
  refine F.ok scLInt (fun vs H Q E h => ?_) (fun cdv A outer s H vs Q E hr h => ?_)
  · obtain ⟨z, rfl, _⟩ := h
    rfl
  obtain ⟨z, rfl, q⟩ := h
  refine ⟨_, pss_one (ps_ret (pe_and (pe_isi (pv 0) mi mn rfl) (pe_one (pe_not (pe_isi (pv 0) mi mb rfl))))), ?_⟩
  refine ⟨_, rfl, isi (ty_int z) (by decide +kernel : kitB "int" "int" = some true) ⟨_, rfl, iteT' ?_⟩⟩
  exact ⟨_, rfl, isi (ty_int z) (by decide +kernel : kitB "int" "bool" = some false) ⟨_, rfl, q⟩⟩
end
abbrev sSameItems : Stmt := top 27
abbrev sSame : Stmt := top 28
theorem scSI : FnScope ["actual", "expected", "k"] ["actual", "expected"] (defScope sSameItems) := ⟨rfl, rfl, rfl, by decide +kernel, rfl, by decide +kernel, by decide +kernel⟩
theorem scSame : FnScope ["actual", "expected", "key"] ["actual", "expected"] (defScope sSame) := ⟨rfl, rfl, rfl, by decide +kernel, rfl, by decide +kernel, by decide +kernel⟩
def spSame (K : PySem.W.Frag) (n : Nat) : Sp := fun vs H Q _ => ∃ x y, vs = [x, y] ∧ Eqd K H n x y ∧ Q (.bl true) H
def spItems (K : PySem.W.Frag) (n : Nat) : Sp := fun vs H Q _ => ∃ (a b : Addr) (xs ys : List V), vs = [.ref a, .ref b] ∧ (SqL K H a xs ∨ SqT K H a xs) ∧ (SqL K H b ys ∨ SqT K H b ys) ∧ xs.length = ys.length ∧ ys.length ≤ 1000 ∧
  (∀ (i : Nat) (x y : V), xs[i]? = some x → ys[i]? = some y → Eqd K H n x y) ∧ Q (.bl true) H
section
variable {P : Program} {w : World} {K : PySem.W.Frag} {mg : Str → Option Value} {base : Heap} {f g : Addr} {fd gd : FuncData}
theorem ok_items {n k : Nat} (F : Fun K "_law_same_items" "_law_same_items" sSameItems f fd) (G : FnOk P w K mg base CX0 k g gd ["actual", "expected"] (spSame K n)) (bG : Binds K gd ["actual", "expected"] []) (kG : PySem.W.keepIn K (.ref g) = true) (mG : mg "_law_same" = some (.ref g)) (ml : mg "len" = none) (mr : mg "range" = none) :
    FnOk P w K mg base CX0 (k + 1) f fd ["actual", "expected"] (spItems K n) := by
  refine F.ok scSI (fun vs H Q E h => ?_) (fun cdv A outer s H vs Q E hr h => ?_)
  · obtain ⟨a, b, xs, ys, rfl, _⟩ := h
    rfl
  obtain ⟨a, b, xs, ys, rfl, hx, hy, hl, hz, hE, q⟩ := h
  refine ⟨_, pss_cons (ps_if (pt_cmpR op_ne (pe_callB call_len_seq (by rfl) ml PySem.boot_len (pa_cons (pv 0) pa_nil)) (pe_callB call_len_seq (by rfl) ml PySem.boot_len (pa_cons (pv 1) pa_nil)) (nomark _)) pss_never pss_nil)
    (pss_cons (ps_for PassesOwn.never rfl (pi_range1 (by rfl) mr (pa_cons (pe_callB call_len_seq (by rfl) ml PySem.boot_len (pa_cons (pv 1) pa_nil)) pa_nil)) (pg_name (i := 2) scSI.nd rfl (Or.inl rfl))
      (pss_one (ps_if (pt_not (pt_val (pe_call G hr (by rfl) mG kG bG .nil pass0 (pa_cons (pe_ix ix_seq (pv 0) (pv 2) (fun _ _ => rfl)) (pa_cons (pe_ix ix_seq (pv 1) (pv 2) (fun _ _ => rfl)) pa_nil))))) pss_never pss_nil)))
    (pss_one (ps_ret pe_bl))), ?_⟩
  refine ⟨.ref a, rfl, a, xs, rfl, hx, .ref b, rfl, b, ys, rfl, hy, rfl, _, rfl, ?_⟩
  rw [hl]
  refine iteNS rfl ?_
  refine ⟨.ref b, rfl, b, ys, rfl, hy, ys.length, rfl, by omega, (by show ((ys.length : Nat) : Int) < 2 ^ 62; omega), ?_⟩
  refine for_range (n := ((ys.length : Nat) : Int).toNat) (fun i σ H1 => ∃ y, σ = [some (.ref a), some (.ref b), y] ∧ H1 = H) ⟨none, rfl, rfl⟩ (fun i σ H1 hi p => ?_) fun σ H1 p => ?_
  · obtain ⟨y, rfl, rfl⟩ := p
    have hi2 : i < ys.length := by omega
    have hi1 : i < xs.length := by omega
    have gx : xs[i]? = some xs[i] := List.getElem?_eq_getElem hi1
    have gy : ys[i]? = some ys[i] := List.getElem?_eq_getElem hi2
    have at1 : atI xs (0 + (i : Int)) = some xs[i] := at_of (by omega) gx
    have at2 : atI ys (0 + (i : Int)) = some ys[i] := at_of (by omega) gy
    refine ⟨.ref a, rfl, .int _, rfl, rix hx at1 ⟨.ref b, rfl, .int _, rfl, rix hy at2 ⟨_, _, rfl, hE i _ _ gx gy, true, rfl, (iteNT ?_ : if (!true) = true then _ else _)⟩⟩⟩
    exact ⟨_, rfl, rfl⟩
  · obtain ⟨y, rfl, rfl⟩ := p
    exact q
theorem ok_same {n k : Nat} (F : Fun K "_law_same" "_law_same" sSame f fd) (G : FnOk P w K mg base CX0 k g gd ["actual", "expected"] (spItems K n)) (bG : Binds K gd ["actual", "expected"] []) (kG : PySem.W.keepIn K (.ref g) = true) (mG : mg "_law_same_items" = some (.ref g)) (mi : mg "isinstance" = none)
    (mb : mg "bool" = none) (mn : mg "int" = none) (ms : mg "str" = none) (mt : mg "tuple" = none) (mll : mg "list" = none)
    {j : Addr} {jd : FuncData} {kj : Nat} (hkj : kj ≤ k) (J : FnOk P w K mg base CX0 kj j jd ["actual"] spLInt) (bJ : Binds K jd ["actual"] []) (kJ : PySem.W.keepIn K (.ref j) = true) (mJ : mg "_law_is_integer" = some (.ref j)) :
    FnOk P w K mg base CX0 (k + 1) f fd ["actual", "expected"] (spSame K (n + 1)) := by
  refine F.ok scSame (fun vs H Q E h => ?_) (fun cdv A outer s H vs Q E hr h => ?_)
  · obtain ⟨x, y, rfl, _⟩ := h
    rfl
  obtain ⟨x, y, rfl, hE, q⟩ := h
  refine ⟨_, pss_cons (ps_if (pt_cmpR op_isN (pv 1) pe_non (nomark _)) pss_never pss_nil)
    (pss_cons (ps_if (pt_val (pe_isi (pv 1) mi mb rfl)) (pss_one (ps_ret (pe_and (pe_isi (pv 0) mi mb rfl) (pe_one (pe_cmpR op_eq (pv 0) (pv 1) (nomark _)))))) pss_nil)
    (pss_cons (ps_if (pt_val (pe_isi (pv 1) mi mn rfl)) (pss_one (ps_ret (pe_and (pe_call J (hr.mono hkj) (by rfl) mJ kJ bJ .nil pass0 (pa_cons (pv 0) pa_nil)) (pe_one (pe_cmpR op_eq (pv 0) (pv 1) (nomark _)))))) pss_nil)
    (pss_cons (ps_if (pt_val (pe_isi (pv 1) mi ms rfl)) (pss_one (ps_ret (pe_and (pe_isi (pv 0) mi ms rfl) (pe_one (pe_cmpR op_eq (pv 0) (pv 1) (nomark _)))))) pss_nil)
    (pss_cons (ps_if (pt_val (pe_isi (pv 1) mi mt rfl)) (pss_one (ps_ret (pe_and (pe_isi (pv 0) mi mt rfl) (pe_one (pe_call G hr (by rfl) mG kG bG .nil pass0 (pa_cons (pv 0) (pa_cons (pv 1) pa_nil))))))) pss_nil)
    (pss_cons (ps_if (pt_val (pe_isi (pv 1) mi mll rfl)) (pss_one (ps_ret (pe_and (pe_isi (pv 0) mi mll rfl) (pe_one (pe_call G hr (by rfl) mG kG bG .nil pass0 (pa_cons (pv 0) (pa_cons (pv 1) pa_nil))))))) pss_nil)
    pss_never))))), ?_⟩
  cases hE with
  | str _ z =>
    refine ⟨_, rfl, rfl, _, rfl, ifF (fun z => by cases z) ?_⟩
    refine ⟨_, rfl, isi (ty_str z) (by decide +kernel : kitB "str" "bool" = some false) ⟨_, rfl, iteF' ?_⟩⟩
    refine ⟨_, rfl, isi (ty_str z) (by decide +kernel : kitB "str" "int" = some false) ⟨_, rfl, iteF' ?_⟩⟩
    refine ⟨_, rfl, isi (ty_str z) (by decide +kernel : kitB "str" "str" = some true) ⟨_, rfl, iteT' ?_⟩⟩
    refine ⟨_, rfl, isi (ty_str z) (by decide +kernel : kitB "str" "str" = some true) ⟨_, rfl, iteT' ?_⟩⟩
    refine ⟨_, rfl, _, rfl, rfl, ?_⟩
    rw [decide_eq_true rfl]
    exact q
  | int _ z =>
    refine ⟨_, rfl, rfl, _, rfl, ifF (fun z => by cases z) ?_⟩
    refine ⟨_, rfl, isi (ty_int z) (by decide +kernel : kitB "int" "bool" = some false) ⟨_, rfl, iteF' ?_⟩⟩
    refine ⟨_, rfl, isi (ty_int z) (by decide +kernel : kitB "int" "int" = some true) ⟨_, rfl, iteT' ?_⟩⟩
    refine ⟨_, rfl, z, rfl, _, rfl, iteT' ⟨_, rfl, _, rfl, rfl, ?_⟩⟩
    rw [decide_eq_true rfl]
    exact q
  | bl _ z =>
    refine ⟨_, rfl, rfl, _, rfl, ifF (fun z => by cases z) ?_⟩
    refine ⟨_, rfl, isi (ty_bl z) (by decide +kernel : kitB "bool" "bool" = some true) ⟨_, rfl, iteT' ?_⟩⟩
    refine ⟨_, rfl, isi (ty_bl z) (by decide +kernel : kitB "bool" "bool" = some true) ⟨_, rfl, iteT' ⟨_, rfl, _, rfl, rfl, ?_⟩⟩⟩
    rw [decide_eq_true rfl]
    exact q
  | tup h1 h2 hl hz h =>
    refine ⟨_, rfl, rfl, _, rfl, ifF (fun z => by cases z) ?_⟩
    refine ⟨_, rfl, isi (ty_tup h2) (by decide +kernel : kitB "tuple" "bool" = some false) ⟨_, rfl, iteF' ?_⟩⟩
    refine ⟨_, rfl, isi (ty_tup h2) (by decide +kernel : kitB "tuple" "int" = some false) ⟨_, rfl, iteF' ?_⟩⟩
    refine ⟨_, rfl, isi (ty_tup h2) (by decide +kernel : kitB "tuple" "str" = some false) ⟨_, rfl, iteF' ?_⟩⟩
    refine ⟨_, rfl, isi (ty_tup h2) (by decide +kernel : kitB "tuple" "tuple" = some true) ⟨_, rfl, iteT' ?_⟩⟩
    refine ⟨_, rfl, isi (ty_tup h1) (by decide +kernel : kitB "tuple" "tuple" = some true) ⟨_, rfl, iteT' ?_⟩⟩
    exact ⟨_, rfl, _, rfl, _, _, _, _, rfl, .inr h1, .inr h2, hl, hz, h, q⟩
  | lst h1 h2 hl hz h =>
    refine ⟨_, rfl, rfl, _, rfl, ifF (fun z => by cases z) ?_⟩
    refine ⟨_, rfl, isi (ty_lst h2) (by decide +kernel : kitB "list" "bool" = some false) ⟨_, rfl, iteF' ?_⟩⟩
    refine ⟨_, rfl, isi (ty_lst h2) (by decide +kernel : kitB "list" "int" = some false) ⟨_, rfl, iteF' ?_⟩⟩
    refine ⟨_, rfl, isi (ty_lst h2) (by decide +kernel : kitB "list" "str" = some false) ⟨_, rfl, iteF' ?_⟩⟩
    refine ⟨_, rfl, isi (ty_lst h2) (by decide +kernel : kitB "list" "tuple" = some false) ⟨_, rfl, iteF' ?_⟩⟩
    refine ⟨_, rfl, isi (ty_lst h2) (by decide +kernel : kitB "list" "list" = some true) ⟨_, rfl, iteT' ?_⟩⟩
    refine ⟨_, rfl, isi (ty_lst h1) (by decide +kernel : kitB "list" "list" = some true) ⟨_, rfl, iteT' ?_⟩⟩
    exact ⟨_, rfl, _, rfl, _, _, _, _, rfl, .inl h1, .inl h2, hl, hz, h, q⟩
theorem no_same : FnOk P w K mg base CX0 0 f fd ["actual", "expected"] (spSame K 0) := by
  have no : ∀ vs H Q E, ¬ spSame K 0 vs H Q E := fun vs H Q E h => by
    obtain ⟨x, y, _, h, _⟩ := h
    cases h
  exact ⟨fun vs H Q E h => absurd h (no vs H Q E), fun A outer s H args us vs Q E _ _ _ _ h => absurd h (no vs H Q E)⟩
/-- the pair, by the number of levels -/
theorem same_all (F : Fun K "_law_same" "_law_same" sSame f fd) (bF : Binds K fd ["actual", "expected"] []) (mF : mg "_law_same" = some (.ref f)) (G : Fun K "_law_same_items" "_law_same_items" sSameItems g gd) (bG : Binds K gd ["actual", "expected"] []) (mG : mg "_law_same_items" = some (.ref g))
    (ml : mg "len" = none) (mr : mg "range" = none) (mi : mg "isinstance" = none) (mb : mg "bool" = none) (mn : mg "int" = none) (ms : mg "str" = none) (mt : mg "tuple" = none) (mll : mg "list" = none)
    {j : Addr} {jd : FuncData} (J : FnOk P w K mg base CX0 1 j jd ["actual"] spLInt) (bJ : Binds K jd ["actual"] []) (kJ : PySem.W.keepIn K (.ref j) = true) (mJ : mg "_law_is_integer" = some (.ref j)) :
    ∀ n : Nat, FnOk P w K mg base CX0 (2 * n) f fd ["actual", "expected"] (spSame K n)
  | 0 => no_same
  | n + 1 => ok_same F (ok_items G (same_all F bF mF G bG mG ml mr mi mb mn ms mt mll J bJ kJ mJ n) bF F.kp mF ml mr) bG G.kp mG mi mb mn ms mt mll (by omega) J bJ kJ mJ
end
end K01
set_option Elab.async false
set_option linter.all false
set_option maxRecDepth 100000
set_option maxHeartbeats 2000000
namespace K01
open PySem PySem.Spec PyProof.Rows L2
/-! ### shapes -/
inductive Sh where
  | nil
  | word (l : Str) (t : Sh)
  | tree (l : Str) (a b : Sh)
deriving Inhabited, DecidableEq
def Sh.count : Sh → Nat
  | .nil => 0
  | .word _ t => t.count + 1
  | .tree _ a b => a.count + b.count + 1
def kids : Sh → List Sh
  | .nil => []
  | .word _ t => [t]
  | .tree _ a b => [a, b]
def parts : Sh → List Sh
  | .nil => [.nil]
  | .word l t => .word l t :: parts t
  | .tree l a b => .tree l a b :: (parts a ++ parts b)
theorem parts_eq (t : Sh) : parts t = t :: (kids t).flatMap parts := by
  cases t <;> simp [parts, kids]
theorem parts_len : ∀ t : Sh, (parts t).length ≤ 2 * t.count + 1
  | .nil => by simp [parts, Sh.count]
  | .word l t => by
    have := parts_len t
    simp only [parts, Sh.count, List.length_cons]
    omega
  | .tree l a b => by
    have h1 := parts_len a
    have h2 := parts_len b
    simp only [parts, Sh.count, List.length_cons, List.length_append]
    omega
def text : Sh → Str
  | .nil => "."
  | .word l t => l ++ text t
  | .tree l a b => l ++ "(" ++ text a ++ "," ++ text b ++ ")"
theorem str_len (s : String) (n : Nat) (h : (Str.ofString s).length = n) : ((s : Str)).length = n := h
/-- every label is one letter -/
def One1 (l : Str) : Prop := l.length = 1 ∧ PyData.strOk l = true
def Ones : Sh → Prop
  | .nil => True
  | .word l t => One1 l ∧ Ones t
  | .tree l a b => One1 l ∧ Ones a ∧ Ones b
theorem text_len : ∀ t : Sh, Ones t → (text t).length ≤ 5 * t.count + 1
  | .nil, _ => by
    show (Str.ofString ".").length ≤ _
    rw [show (Str.ofString ".").length = 1 by decide +kernel]
    simp [Sh.count]
  | .word l t, h => by
    have := text_len t h.2
    simp only [text, Sh.count, Str.length_append, h.1.1]
    omega
  | .tree l a b, h => by
    have h1 := text_len a h.2.1
    have h2 := text_len b h.2.2
    simp only [text, Sh.count, Str.length_append, h.1.1]
    rw [show (Str.ofString "(").length = 1 by decide +kernel, show (Str.ofString ",").length = 1 by decide +kernel, show (Str.ofString ")").length = 1 by decide +kernel]
    omega
/-- what stands at the end of the parts is a row of shapes -/
inductive Chain : List Sh → List Sh → Prop where
  | nil : Chain [] []
  | leaf {L fs : List Sh} (h : Chain L fs) : Chain (.nil :: L) (.nil :: fs)
  | word {L fs : List Sh} {l : Str} {u : Sh} (h : Chain L (u :: fs)) : Chain (.word l u :: L) (.word l u :: fs)
  | tree {L fs : List Sh} {l : Str} {a b : Sh} (h : Chain L (a :: b :: fs)) : Chain (.tree l a b :: L) (.tree l a b :: fs)
theorem chain_parts : ∀ (t : Sh) {L fs : List Sh}, Chain L fs → Chain (parts t ++ L) (t :: fs)
  | .nil, _, _, h => .leaf h
  | .word l u, _, _, h => .word (chain_parts u h)
  | .tree l a b, L, fs, h => by
    have q := chain_parts a (chain_parts b h)
    rw [← List.append_assoc] at q
    exact .tree q
theorem chain_tail {x : Sh} {L fs : List Sh} (h : Chain (x :: L) fs) : ∃ fs', Chain L fs' := by
  cases h with
  | leaf h => exact ⟨_, h⟩
  | word h => exact ⟨_, h⟩
  | tree h => exact ⟨_, h⟩
theorem chain_drop {L fs : List Sh} (h : Chain L fs) : ∀ k, ∃ fs', Chain (L.drop k) fs' := by
  intro k
  induction k generalizing L fs with
  | zero => exact ⟨fs, h⟩
  | succ k ih =>
    cases L with
    | nil => exact ⟨fs, h⟩
    | cons x L =>
      obtain ⟨f, q⟩ := chain_tail h
      exact ih q
theorem chain_one : ∀ {L fs gs : List Sh}, Chain L fs → Chain L gs → fs = gs := by
  intro L fs gs h
  induction h generalizing gs with
  | nil => intro q; cases q; rfl
  | leaf h ih => intro q; cases q with | leaf q => rw [ih q]
  | word h ih => intro q; cases q with | word q => have := ih q; simp at this; rw [this]
  | tree h ih => intro q; cases q with | tree q => have := ih q; simp at this; rw [this]
/-! ### shapes in the heap -/
inductive Rep (H : Hp) : Addr → Sh → Prop where
  | nil {a : Addr} (h : H a = some (.tup [])) : Rep H a .nil
  | word {a c : Addr} {l : Str} {t : Sh} (h : H a = some (.tup [.str l, .ref c])) (r : Rep H c t) : Rep H a (.word l t)
  | tree {a c d : Addr} {l : Str} {t u : Sh} (h : H a = some (.tup [.str l, .ref c, .ref d])) (r1 : Rep H c t) (r2 : Rep H d u) : Rep H a (.tree l t u)
theorem Rep.same {H H' : Hp} (g : Same H H') : ∀ {t : Sh} {a : Addr}, Rep H a t → Rep H' a t
  | _, _, .nil h => .nil (g _ _ h)
  | _, _, .word h r => .word (g _ _ h) (r.same g)
  | _, _, .tree h r1 r2 => .tree (g _ _ h) (r1.same g) (r2.same g)
theorem Rep.ext {H H' : Hp} (g : LamX.ExtN H H') : ∀ {t : Sh} {a : Addr}, Rep H a t → Rep H' a t
  | _, _, .nil h => .nil (g _ _ h (fun _ z => by cases z))
  | _, _, .word h r => .word (g _ _ h (fun _ z => by cases z)) (r.ext g)
  | _, _, .tree h r1 r2 => .tree (g _ _ h (fun _ z => by cases z)) (r1.ext g) (r2.ext g)
theorem Rep.one {H : Hp} : ∀ {t u : Sh} {a : Addr}, Rep H a t → Rep H a u → t = u
  | _, _, _, .nil h, r => by
    cases r with
    | nil => rfl
    | word h' => rw [h] at h'; cases h'
    | tree h' => rw [h] at h'; cases h'
  | _, _, _, .word h r, r' => by
    cases r' with
    | nil h' => rw [h] at h'; cases h'
    | word h' q => rw [h] at h'; cases h'; rw [r.one q]
    | tree h' => rw [h] at h'; cases h'
  | _, _, _, .tree h r1 r2, r' => by
    cases r' with
    | nil h' => rw [h] at h'; cases h'
    | word h' => rw [h] at h'; cases h'
    | tree h' q1 q2 => rw [h] at h'; cases h'; rw [r1.one q1, r2.one q2]
/-- the tuple at such an address: a label if any, and the children -/
theorem Rep.tup {H : Hp} {a : Addr} {t : Sh} (r : Rep H a t) : ∃ xs, H a = some (.tup xs) ∧ xs.length ≤ 3 := by
  cases r with
  | nil h => exact ⟨_, h, by show 0 ≤ 3; decide⟩
  | word h => exact ⟨_, h, by show 2 ≤ 3; decide⟩
  | tree h => exact ⟨_, h, by show 3 ≤ 3; decide⟩
def Reps (H : Hp) : List Addr → List Sh → Prop
  | [], [] => True
  | a :: as, s :: ss => Rep H a s ∧ Reps H as ss
  | _, _ => False
theorem Reps.mono {H H' : Hp} (g : ∀ {t : Sh} {a : Addr}, Rep H a t → Rep H' a t) : ∀ {as : List Addr} {ss : List Sh}, Reps H as ss → Reps H' as ss
  | [], [], _ => True.intro
  | _ :: _, _ :: _, ⟨h, t⟩ => ⟨g h, Reps.mono g t⟩
theorem Reps.same {H H' : Hp} (g : Same H H') {as : List Addr} {ss : List Sh} (h : Reps H as ss) : Reps H' as ss := h.mono (fun r => r.same g)
theorem Reps.append {H : Hp} : ∀ {as bs : List Addr} {ss ts : List Sh}, Reps H as ss → Reps H bs ts → Reps H (as ++ bs) (ss ++ ts)
  | [], _, [], _, _, h => h
  | _ :: _, _, _ :: _, _, ⟨h, t⟩, q => ⟨h, t.append q⟩
theorem Reps.len {H : Hp} : ∀ {as : List Addr} {ss : List Sh}, Reps H as ss → as.length = ss.length
  | [], [], _ => rfl
  | _ :: _, _ :: _, ⟨_, t⟩ => congrArg (· + 1) t.len
theorem Reps.get {H : Hp} : ∀ {as : List Addr} {ss : List Sh} {i : Nat} {s : Sh}, Reps H as ss → ss[i]? = some s → ∃ a, as[i]? = some a ∧ Rep H a s
  | [], [], i, s, _, e => by simp at e
  | a :: as, s' :: ss, 0, s, ⟨h, _⟩, e => by
    simp at e
    exact ⟨a, rfl, e ▸ h⟩
  | a :: as, s' :: ss, i + 1, s, ⟨_, t⟩, e => t.get (i := i) (by simpa using e)
theorem Reps.get' {H : Hp} : ∀ {as : List Addr} {ss : List Sh} {i : Nat} {a : Addr}, Reps H as ss → as[i]? = some a → ∃ s, ss[i]? = some s ∧ Rep H a s
  | [], [], i, s, _, e => by simp at e
  | a :: as, s' :: ss, 0, s, ⟨h, _⟩, e => by
    simp at e
    exact ⟨s', rfl, e ▸ h⟩
  | a :: as, s' :: ss, i + 1, s, ⟨_, t⟩, e => t.get' (i := i) (by simpa using e)
theorem Reps.nil {H : Hp} : Reps H [] [] := True.intro
theorem Reps.cons {H : Hp} {a : Addr} {s : Sh} {as : List Addr} {ss : List Sh} (h : Rep H a s) (t : Reps H as ss) : Reps H (a :: as) (s :: ss) := ⟨h, t⟩
theorem Reps.snoc {H : Hp} {a : Addr} {s : Sh} {as : List Addr} {ss : List Sh} (t : Reps H as ss) (h : Rep H a s) : Reps H (as ++ [a]) (ss ++ [s]) := t.append ⟨h, True.intro⟩
/-- the children of a shape in the heap -/
theorem Rep.kids {H : Hp} {a : Addr} {t : Sh} (r : Rep H a t) : ∃ xs cs, H a = some (.tup xs) ∧ xs.drop 1 = cs.map V.ref ∧ Reps H cs (kids t) ∧ xs.length ≤ 3 ∧ (cs = [] → t = .nil ∧ xs = []) := by
  cases r with
  | nil h => exact ⟨_, [], h, rfl, True.intro, by show 0 ≤ 3; decide, fun _ => ⟨rfl, rfl⟩⟩
  | word h r => exact ⟨_, [_], h, rfl, ⟨r, True.intro⟩, by show 2 ≤ 3; decide, fun z => by cases z⟩
  | tree h r1 r2 => exact ⟨_, [_, _], h, rfl, ⟨r1, r2, True.intro⟩, by show 3 ≤ 3; decide, fun z => by cases z⟩
end K01
set_option Elab.async false
set_option linter.all false
set_option maxRecDepth 100000
set_option maxHeartbeats 2000000
namespace K01
open PySem PySem.Spec PyProof.Rows L2
theorem gn {i : Nat} {v : V} {σ : L2.St} {H : Hp} {Q : L2.St → Hp → Prop} (h : Q (σ.set i (some v)) H) : gName i v σ H Q := h
theorem nxs {A rt bk ct} {σ : L2.St} {H : Hp} (h : A σ H) : ({ nx := A, rt := rt, bk := bk, ct := ct } : Ends).nx σ H := h
theorem while_seq {c : TT} {tb u : TS} {D : Ends} {σ : L2.St} {H : Hp} (Pv : L2.St → Hp → Prop) (μ : L2.St → Hp → Nat) (h0 : Pv σ H)
    (hs : ∀ σ H, Pv σ H → c σ H fun b H1 => if b = true then tb { nx := fun σ' H' => Pv σ' H' ∧ μ σ' H' < μ σ H, ct := fun σ' H' => Pv σ' H' ∧ μ σ' H' < μ σ H, bk := u D, rt := D.rt } σ H1 else u D σ H1)
    (mono : ∀ σ H Q Q', (∀ b H1, Q b H1 → Q' b H1) → c σ H Q → c σ H Q') : tSeq (tWhile c tb) u D σ H := while_by (D := { D with nx := u D }) Pv μ h0 hs mono
abbrev sParts : Stmt := top 12
theorem scParts : FnScope ["shape", "waiting", "found", "now"] ["shape"] (defScope sParts) := ⟨rfl, rfl, rfl, by decide +kernel, rfl, by decide +kernel, by decide +kernel⟩
def spParts : Sp := fun vs H Q _ => ∃ (a : Addr) (t : Sh), vs = [.ref a] ∧ Rep H a t ∧ t.count ≤ 100 ∧ ∀ H' q as, Same H H' → H q = none → H' q = some (.lst (as.map V.ref)) → Reps H' as (parts t) → Q (.ref q) H'
theorem small' {n : Nat} (h : n < 1000) : n < sizeLine := Nat.lt_of_lt_of_le h (small (by decide))
/-- shapes stay where all but two lists stays -/
theorem Rep.but {H H' : Hp} {W D : Addr} {xs ys : List V} (eW : H W = some (.lst xs)) (eD : H D = some (.lst ys)) (g : ∀ b o, H b = some o → b ≠ W → b ≠ D → H' b = some o) {t : Sh} {a : Addr} (r : Rep H a t) : Rep H' a t := by
  have ne : ∀ {b : Addr} {zs : List V}, H b = some (.tup zs) → H' b = some (.tup zs) := fun {b zs} e => g b _ e (fun z => by rw [z, eW] at e; cases e) (fun z => by rw [z, eD] at e; cases e)
  induction r with
  | nil h => exact .nil (ne h)
  | word h _ ih => exact .word (ne h) ih
  | tree h _ _ i1 i2 => exact .tree (ne h) i1 i2
theorem revs {H : Hp} {as : List Addr} {ss : List Sh} (h : Reps H as.reverse ss) : ∀ {a : Addr} {cs : List Addr}, as = cs ++ [a] → ∃ s r, ss = s :: r ∧ Rep H a s ∧ Reps H cs.reverse r := by
  intro a cs e
  subst e
  rw [List.reverse_append] at h
  cases ss with
  | nil => exact h.elim
  | cons s r => exact ⟨s, r, rfl, h.1, h.2⟩
theorem cut1 (xs : List V) : cutV xs (some 1) none = xs.drop 1 := by
  unfold cutV
  rw [show HT.sIx xs.length 0 (some 1) = min 1 xs.length from HT.sIx_nat xs.length 0 1, HT.sIx_none]
  cases xs with
  | nil => rfl
  | cons x r =>
    rw [show min 1 (x :: r).length = 1 by
      rw [List.length_cons]
      omega]
    show (List.take ((x :: r).length - 1) r) = r
    rw [List.length_cons, Nat.add_sub_cancel]
    exact List.take_length
/-- t[1:], t a tuple -/
theorem tail_sl {K : PySem.W.Frag} {H : Hp} {c : Addr} {xs : List V} {σ : L2.St} {Q : VK} (h : H c = some (.tup xs)) (q : ∀ p H', Same H H' → H' p = some (.tup (xs.drop 1)) → Q (.ref p) H') : tNoPart σ H fun u H3 => rSlA K (.ref c) (some 1) u H3 Q := by
  refine ⟨c, xs, rfl, SqT.of h, fun z => ?_, fun _ p hp => ?_⟩
  · refine q c H (Same.refl H) ?_
    have e : xs = [] := by
      have := z.1
      rw [show HT.sIx xs.length 0 (some 1) = min 1 xs.length from HT.sIx_nat xs.length 0 1] at this
      cases xs with
      | nil => rfl
      | cons x r => simp at this
    rw [e] at h ⊢
    exact h
  · refine q p _ (same_new hp) ?_
    rw [upd_same, cut1]
section
variable {P : Program} {w : World} {K : PySem.W.Frag} {mg : Str → Option Value} {base : Heap}
theorem ok_parts {f : Addr} {fd : FuncData} {k : Nat} (F : Fun K "_parts" "_parts" sParts f fd) (ml : mg "list" = none) (mr : mg "reversed" = none) : FnOk P w K mg base CX0 (k + 1) f fd ["shape"] spParts := by
  refine F.ok scParts (fun vs H Q E h => ?_) (fun cdv A outer s H vs Q E hr h => ?_)
  · obtain ⟨a, t, rfl, _⟩ := h
    rfl
  obtain ⟨a, t, rfl, hR, hc, q⟩ := h
  have hu := hu_of hr
  refine ⟨_, pss_cons (ps_set (i := 1) scParts.nd rfl (Or.inl rfl) (pe_lst (pa_cons (pv 0) pa_nil)))
    (pss_cons (ps_set (i := 2) scParts.nd rfl (Or.inl rfl) (pe_lst pa_nil))
    (pss_cons (ps_while PassesOwn.never (pt_truth (pv 1) (fun _ => rfl))
      (pss_cons (ps_set (i := 3) scParts.nd rfl (Or.inl rfl) (pe_bm0 PySem.F.plainAttrs_list PySem.F.slot_list_pop PySem.F.type_list_pop mt_pop (pv 1)))
      (pss_cons (ps_expr (pe_bm PySem.F.plainAttrs_list PySem.F.slot_list_append PySem.F.type_list_append mt_append (pv 2) (pa_cons (pv 3) pa_nil)))
      (pss_one (ps_expr (pe_bm PySem.F.plainAttrs_list PySem.F.slot_list_extend PySem.F.type_list_extend mt_extend (pv 1) (pa_cons (pe_listRev rfl (by rfl) ml (by rfl) mr (pe_slice sl_tupA (pv 3) (po_some pe_int) po_none)) pa_nil)))))))
    (pss_one (ps_ret (pv 2))))), ?_⟩
  refine ⟨_, rfl, (by show 1 ≤ sizeLine; exact small (by decide)), fun W hW => ⟨(by show 0 ≤ sizeLine; exact Nat.zero_le _), fun D hD => ?_⟩⟩
  have hWD : W ≠ D := ne_of_none upd_same hD
  have hD0 : H D = none := by
    have := hD
    rwa [upd_ne (Ne.symm hWD)] at this
  refine gn (nxs (while_seq (fun σ H1 => ∃ (y : Option V) (as bs : List Addr) (ws fs : List Sh), σ = [some (.ref a), some (.ref W), some (.ref D), y] ∧ Same H H1 ∧ H1 W = some (.lst (as.map V.ref)) ∧ H1 D = some (.lst (bs.map V.ref)) ∧
      Reps H1 as.reverse ws ∧ Reps H1 bs fs ∧ fs ++ ws.flatMap parts = parts t)
    (fun σ H1 => (parts t).length - (match H1 D with | some (.lst xs) => xs.length | _ => 0)) ?_ (fun σ H1 p => ?_) (fun σ H Q Q' hq h => ?_)))
  · refine ⟨none, [a], [], [t], [], rfl, fun b o e => ?_, ?_, upd_same, ⟨?_, True.intro⟩, True.intro, by simp⟩
    · rw [upd_ne (ne_of_none e hD0), upd_ne (ne_of_none e hW)]
      exact e
    · rw [upd_ne hWD, upd_same]
      rfl
    · exact hR.same fun b o e => by
        rw [upd_ne (ne_of_none e hD0), upd_ne (ne_of_none e hW)]
        exact e
  · obtain ⟨y, as, bs, ws, fs, rfl, g, eW, eD, rW, rD, ep⟩ := p
    refine ⟨_, rfl, _, .inl ⟨_, SqL.of eW, rfl⟩, ?_⟩
    rcases List.eq_nil_or_concat as with e | ⟨cs, x, e⟩
    · subst e
      refine iteF' ?_
      have hw : ws = [] := by
        cases ws with
        | nil => rfl
        | cons _ _ => exact rW.elim
      subst hw
      rw [List.flatMap_nil, List.append_nil] at ep
      subst ep
      exact ⟨_, rfl, q _ _ _ g hD0 eD rD⟩
    · rw [List.concat_eq_append] at e
      obtain ⟨s, r, e2, rx, rr⟩ := revs rW e
      subst e e2
      have hne : (!((cs ++ [x]).map V.ref).isEmpty) = true := by simp
      rw [hne]
      refine iteT' ?_
      have hlast : ((cs ++ [x]).map V.ref)[((cs ++ [x]).map V.ref).length - 1]? = some (V.ref x) := by simp
      refine ⟨_, rfl, .inl ⟨rfl, _, SqL.of eW⟩, W, _, _, rfl, rfl, eW, hlast, ?_⟩
      have hdl : ((cs ++ [x]).map V.ref).dropLast = cs.map V.ref := by simp
      rw [hdl]
      have hxW : x ≠ W := by
        obtain ⟨xs, e, _⟩ := rx.tup
        intro z
        rw [z, eW] at e
        cases e
      have hDW : D ≠ W := hWD.symm
      have hlen : bs.length < (parts t).length := by
        rw [← ep, List.length_append, rD.len, List.flatMap_cons, List.length_append, parts_eq s, List.length_cons]
        omega
      have hcap := parts_len t
      refine ⟨_, rfl, .inl ⟨rfl, _, SqL.of (by rw [upd_ne hDW]; exact eD)⟩, _, rfl, D, _, _, rfl, rfl, (by rw [upd_ne hDW]; exact eD), (by rw [List.length_map]; exact small' (by omega)), ?_⟩
      obtain ⟨xs, ks, e3, e4, rk, h3, _⟩ := rx.kids
      have hxD : x ≠ D := by
        intro z
        rw [z, eD] at e3
        cases e3
      have e5 : (upd (upd H1 W (.lst (cs.map V.ref))) D (.lst (bs.map V.ref ++ [V.ref x]))) x = some (.tup xs) := by rw [upd_ne hxD, upd_ne hxW]; exact e3
      refine ⟨_, rfl, .inl ⟨rfl, _, SqL.of (by rw [upd_ne hWD, upd_same])⟩, _, rfl, 1, rfl, tail_sl e5 fun p H2 g2 e6 => ?_⟩
      rw [e4] at e6
      refine ⟨p, _, rfl, SqT.of e6, fun r2 hr2 => ?_⟩
      have eW2 : H2 W = some (.lst (cs.map V.ref)) := g2 _ _ (by rw [upd_ne hWD, upd_same])
      have eD2 : H2 D = some (.lst (bs.map V.ref ++ [V.ref x])) := g2 _ _ upd_same
      have hWr : W ≠ r2 := ne_of_none eW2 hr2
      have hDr : D ≠ r2 := ne_of_none eD2 hr2
      have kle : ks.length ≤ 2 := by
        have := congrArg List.length e4
        rw [List.length_drop, List.length_map] at this
        omega
      have sle : cs.length ≤ 900 := by
        have h1 := rr.len
        rw [List.length_reverse] at h1
        have h2 : r.length ≤ (r.flatMap parts).length := by
          clear ep rW rr h1
          induction r with
          | nil => simp
          | cons u v ih =>
            rw [List.flatMap_cons, List.length_append, parts_eq u, List.length_cons, List.length_cons]
            omega
        have h3 := congrArg List.length ep
        rw [List.length_append, List.flatMap_cons, List.length_append] at h3
        omega
      refine ⟨W, r2, _, _, rfl, rfl, (by rw [upd_ne hWr]; exact eW2), upd_same, (by rw [List.length_map, List.length_reverse, List.length_map]; exact small (by omega)), ?_⟩
      have g3 : Same H1 (upd (upd H1 W (.lst (cs.map V.ref))) D (.lst (bs.map V.ref ++ [V.ref x]))) ∨ True := .inr trivial
      have keep : ∀ b o, H1 b = some o → b ≠ W → b ≠ D → (upd (upd H2 r2 (.lst (ks.map V.ref).reverse)) W (.lst (cs.map V.ref ++ (ks.map V.ref).reverse))) b = some o := fun b o e n1 n2 => by
        have e' : H2 b = some o := g2 _ _ (by rw [upd_ne n2, upd_ne n1]; exact e)
        rw [upd_ne n1, upd_ne (ne_of_none e' hr2)]
        exact e'
      have keepR : ∀ {t : Sh} {a : Addr}, Rep H1 a t → Rep (upd (upd H2 r2 (.lst (ks.map V.ref).reverse)) W (.lst (cs.map V.ref ++ (ks.map V.ref).reverse))) a t := fun {t a} r => r.but eW eD keep
      have hW0 : H W = none := hW
      refine ⟨⟨some (.ref x), cs ++ ks.reverse, bs ++ [x], kids s ++ r, fs ++ [s], rfl, fun b o e => ?_, ?_, ?_, ?_, ?_, ?_⟩, ?_⟩
      · exact keep b o (g b o e) (ne_of_none e hW0) (ne_of_none e hD0)
      · rw [upd_same, List.map_append, List.map_reverse]
      · rw [upd_ne hDW, upd_ne hDr, eD2, List.map_append]
        rfl
      · rw [List.reverse_append, List.reverse_reverse]
        exact (rk.mono keepR).append (rr.mono keepR)
      · exact (rD.mono keepR).snoc (keepR rx)
      · rw [← ep, List.flatMap_append, List.flatMap_cons, parts_eq s]
        simp
      · rw [upd_ne hDW, upd_ne hDr, eD2, eD]
        show (parts t).length - (bs.map V.ref ++ [V.ref x]).length < (parts t).length - (bs.map V.ref).length
        rw [List.length_append, List.length_map]
        show _ - (_ + 1) < _
        omega
  · obtain ⟨v, e, k2, hk, q2⟩ := h
    exact ⟨v, e, k2, hk, hq _ _ q2⟩
end
end K01
set_option Elab.async false
set_option linter.all false
set_option maxRecDepth 100000
set_option maxHeartbeats 2000000
namespace K01
open PySem PySem.Spec PyProof.Rows L2
/-- over a list from its end -/
theorem for_rev {K : PySem.W.Frag} {a : Addr} {xs : List V} {g : TG} {tb : TS} {D : Ends} {σ : L2.St} {H : Hp} (Pv : Nat → L2.St → Hp → Prop) (h0 : Pv 0 σ H) (hl : ∀ i σ H, i ≤ xs.length → Pv i σ H → SqL K H a xs)
    (hs : ∀ i x σ H, i < xs.length → xs[xs.length - 1 - i]? = some x → Pv i σ H → g x σ H fun σ2 H2 => tb { D with nx := Pv (i + 1), ct := Pv (i + 1), bk := D.nx } σ2 H2) (hd : ∀ σ H, Pv xs.length σ H → D.nx σ H) :
    ∃ W : Nat → Nat → L2.St → Hp → Prop, (∃ m, W 0 m σ H) ∧ ∀ i m σ H, W i m σ H →
      ((Itv K a xs.length).stop i H ∧ D.nx σ H) ∨ ((Itv K a xs.length).go i H ∧ ∃ N : L2.St → Hp → Prop, (∀ σ' H', N σ' H' → ∃ m', m' < m ∧ W (i + 1) m' σ' H') ∧ ∀ x H', (Itv K a xs.length).yld i H x H' → g x σ H' fun σ2 H2 => tb { D with nx := N, ct := N, bk := D.nx } σ2 H2) := by
  refine ⟨fun i m σ H => m = xs.length - i ∧ i ≤ xs.length ∧ Pv i σ H, ⟨xs.length, by simp, Nat.zero_le _, h0⟩, ?_⟩
  rintro i m σ H ⟨rfl, hi, p⟩
  have q := hl i σ H hi p
  by_cases hlt : i < xs.length
  · refine .inr ⟨⟨hlt, xs, xs[xs.length - 1 - i], q, by simp⟩, Pv (i + 1), fun σ' H' p' => ⟨xs.length - (i + 1), by omega, rfl, hlt, p'⟩, fun x H' y => ?_⟩
    obtain ⟨e, y⟩ := y
    subst e
    exact hs i x σ _ hlt (y xs q) p
  · have e : i = xs.length := by omega
    subst e
    exact .inl ⟨Nat.le_refl _, hd σ H p⟩
theorem chain_kids {s : Sh} {L fs : List Sh} (h : Chain (s :: L) fs) : ∃ gs, fs = s :: gs ∧ Chain L (kids s ++ gs) := by
  cases h with
  | leaf h => exact ⟨_, rfl, h⟩
  | word h => exact ⟨_, rfl, h⟩
  | tree h => exact ⟨_, rfl, h⟩
theorem chain_len {L fs : List Sh} (h : Chain L fs) : fs.length ≤ L.length := by
  induction h with
  | nil => exact Nat.le_refl _
  | leaf h ih => exact Nat.succ_le_succ ih
  | word h ih => simp only [List.length_cons] at ih ⊢; omega
  | tree h ih => simp only [List.length_cons] at ih ⊢; omega
theorem parts_mem : ∀ (t x : Sh), x ∈ parts t → x.count ≤ t.count ∧ (Ones t → Ones x)
  | .nil, x, h => by simp only [parts, List.mem_singleton] at h; subst h; exact ⟨Nat.le_refl _, id⟩
  | .word l t, x, h => by
    simp only [parts, List.mem_cons] at h
    rcases h with rfl | h
    · exact ⟨Nat.le_refl _, id⟩
    · have q := parts_mem t x h
      exact ⟨Nat.le_succ_of_le q.1, fun z => q.2 z.2⟩
  | .tree l a b, x, h => by
    simp only [parts, List.mem_cons, List.mem_append] at h
    rcases h with rfl | h | h
    · exact ⟨Nat.le_refl _, id⟩
    · have q := parts_mem a x h
      exact ⟨by have := q.1; simp only [Sh.count]; omega, fun z => q.2 z.2.1⟩
    · have q := parts_mem b x h
      exact ⟨by have := q.1; simp only [Sh.count]; omega, fun z => q.2 z.2.2⟩
theorem kids_text {s : Sh} (ho : Ones s) (hc : s.count ≤ 100) : ∀ x ∈ (kids s).map text, x.length ≤ 1000 := by
  intro x hx
  cases s with
  | nil => simp [kids] at hx
  | word l t =>
    simp only [kids, List.map_cons, List.map_nil, List.mem_singleton] at hx
    subst hx
    have := text_len t ho.2
    simp only [Sh.count] at hc
    omega
  | tree l a b =>
    simp only [kids, List.map_cons, List.map_nil, List.mem_cons, List.not_mem_nil, or_false] at hx
    simp only [Sh.count] at hc
    rcases hx with rfl | rfl
    · have := text_len a ho.2.1
      omega
    · have := text_len b ho.2.2
      omega
theorem drop_at {α : Type} {L : List α} {n : Nat} {x : α} (h : L[n]? = some x) : L.drop n = x :: L.drop (n + 1) := by
  obtain ⟨hn, e⟩ := List.getElem?_eq_some_iff.mp h
  rw [List.drop_eq_getElem_cons hn, e]
theorem But.same0 {D : Addr} {H H1 H2 : Hp} (hD : H D = none) (g : Same H H1) (b : But D H1 H2) : Same H H2 := fun c o e => b c o (ne_of_none e hD) (g c o e)
theorem Rep.but1 {H H' : Hp} {D : Addr} {xs : List V} (eD : H D = some (.lst xs)) (g : But D H H') {t : Sh} {a : Addr} (r : Rep H a t) : Rep H' a t := r.but eD eD fun b o e n _ => g b o n e
theorem last_str (s : Sh) (fs : List Sh) : (((s :: fs).map text).reverse.map V.str)[(((s :: fs).map text).reverse.map V.str).length - 1]? = some (.str (text s)) := by simp
theorem drop_str (s : Sh) (fs : List Sh) : (((s :: fs).map text).reverse.map V.str).dropLast = (fs.map text).reverse.map V.str := by simp
abbrev sFold : Stmt := top 14
abbrev sWrite : Stmt := top 20
abbrev sAbove : Stmt := top 21
theorem scFold : FnScope ["shape", "bottom", "above", "done", "now", "children", "_"] ["shape", "bottom", "above"] (defScope sFold) := ⟨rfl, rfl, rfl, by decide +kernel, rfl, by decide +kernel, by decide +kernel⟩
theorem scWrite : FnScope ["shape"] ["shape"] (defScope sWrite) := ⟨rfl, rfl, rfl, by decide +kernel, rfl, by decide +kernel, by decide +kernel⟩
theorem scAbove : FnScope ["label", "texts"] ["label", "texts"] (defScope sAbove) := ⟨rfl, rfl, rfl, by decide +kernel, rfl, by decide +kernel, by decide +kernel⟩
def spAbove : Sp := fun vs H Q _ => ∃ (l : Str) (c : Addr) (xs : List Str), vs = [.str l, .ref c] ∧ H c = some (.lst (xs.map V.str)) ∧ l.length ≤ 1000 ∧ (∀ x ∈ xs, x.length ≤ 1000) ∧
  ((∃ x, xs = [x] ∧ Q (.str (l ++ x)) H) ∨ ∃ x y, xs = [x, y] ∧ Q (.str (l ++ "(" ++ x ++ "," ++ y ++ ")")) H)
theorem six : (6000 : Nat) ≤ sizeLine := by rw [sizeLine_eq]; decide
theorem l1 : (Str.ofString "(").length = 1 := by decide +kernel
theorem l2 : (Str.ofString ",").length = 1 := by decide +kernel
theorem l3 : (Str.ofString ")").length = 1 := by decide +kernel
section
variable {P : Program} {w : World} {K : PySem.W.Frag} {mg : Str → Option Value} {base : Heap}
theorem ok_above {f : Addr} {fd : FuncData} {k : Nat} (F : Fun K "_text_above" "_text_above" sAbove f fd) (ml : mg "len" = none) : FnOk P w K mg base CX0 (k + 1) f fd ["label", "texts"] spAbove := by
  refine F.ok scAbove (fun vs H Q E h => ?_) (fun cdv A outer s H vs Q E hr h => ?_)
  · obtain ⟨l, c, xs, rfl, _⟩ := h
    rfl
  obtain ⟨l, c, xs, rfl, hc, hl, hxs, q⟩ := h
  refine ⟨_, pss_cons (ps_if (pt_cmpR op_eq (pe_callB call_len_seq (by rfl) ml PySem.boot_len (pa_cons (pv 1) pa_nil)) pe_int (nomark _))
      (pss_one (ps_ret (pe_op op_add_str (pv 0) (pe_ix ix_list (pv 1) pe_int (fun _ _ => rfl))))) pss_nil)
    (pss_one (ps_ret (pe_joined (.cons (pe_fmt (pv 0)) (.cons pe_str (.cons (pe_fmt (pe_ix ix_list (pv 1) pe_int (fun _ _ => rfl))) (.cons pe_str (.cons (pe_fmt (pe_ix ix_list (pv 1) pe_int (fun _ _ => rfl))) (.cons pe_str .nil))))))))), ?_⟩
  refine ⟨_, rfl, c, _, rfl, .inl (SqL.of hc), rfl, _, rfl, ?_⟩
  have six := six
  rcases q with ⟨x, rfl, q⟩ | ⟨x, y, rfl, q⟩
  · refine ifT rfl ?_
    have hx := hxs x (by simp)
    exact ⟨_, rfl, _, rfl, c, _, _, _, rfl, rfl, SqL.of hc, atI_nat (j := 0) rfl, l, x, rfl, rfl, by omega, q⟩
  · refine ifF (fun z => by cases z) ?_
    have hx := hxs x (by simp)
    have hy := hxs y (by simp)
    have e0 : Str.empty ++ l = l := Str.empty_append l
    refine ⟨_, rfl, .inl ⟨l, rfl, by omega, l, rfl, ?_⟩⟩
    rw [e0]
    refine ⟨by omega, _, rfl, by rw [Str.length_append, l1]; omega, _, rfl, c, _, _, _, rfl, rfl, SqL.of hc, atI_nat (j := 0) rfl, .inl ⟨x, rfl, by omega, x, rfl, by rw [Str.length_append, Str.length_append, l1]; omega, _, rfl, by rw [Str.length_append, Str.length_append, Str.length_append, l1, l2]; omega, ?_⟩⟩
    refine ⟨_, rfl, c, _, _, _, rfl, rfl, SqL.of hc, atI_nat (j := 1) rfl, .inl ⟨y, rfl, by omega, y, rfl, by rw [Str.length_append, Str.length_append, Str.length_append, Str.length_append, l1, l2]; omega, _, rfl, by rw [Str.length_append, Str.length_append, Str.length_append, Str.length_append, Str.length_append, l1, l2, l3]; omega, q⟩⟩
def spFold (g : Addr) : Sp := fun vs H Q _ => ∃ (a : Addr) (t : Sh), vs = [.ref a, .str ".", .ref g] ∧ Rep H a t ∧ t.count ≤ 100 ∧ Ones t ∧ ∀ H', Same H H' → Q (.str (text t)) H'
theorem ok_fold {f g p : Addr} {fd gd pd : FuncData} {k : Nat} (F : Fun K "folded" "folded" sFold f fd) (GA : FnOk P w K mg base CX0 k g gd ["label", "texts"] spAbove) (bA : Binds K gd ["label", "texts"] []) (kA : PySem.W.keepIn K (.ref g) = true)
    (GP : FnOk P w K mg base CX0 k p pd ["shape"] spParts) (bP : Binds K pd ["shape"] []) (kP : PySem.W.keepIn K (.ref p) = true) (mP : mg "_parts" = some (.ref p)) (mr : mg "reversed" = none) : FnOk P w K mg base CX0 (k + 1) f fd ["shape", "bottom", "above"] (spFold g) := by
  refine F.ok scFold (fun vs H Q E h => ?_) (fun cdv A outer s H vs Q E hr h => ?_)
  · obtain ⟨a, t, rfl, _⟩ := h
    rfl
  obtain ⟨a, t, rfl, hR, hc, ho, q⟩ := h
  have hu := hu_of hr
  refine ⟨_, pss_cons (ps_set (i := 3) scFold.nd rfl (Or.inr rfl) (pe_lst pa_nil))
    (pss_cons (ps_for PassesOwn.never rfl (pi_reversed (by rfl) mr (pa_cons (pe_call GP hr (by rfl) mP kP bP .nil pass0 (pa_cons (pv 0) pa_nil)) pa_nil)) (pg_name (i := 4) scFold.nd rfl (Or.inl rfl))
      (pss_one (ps_if (pt_truth (pv 4) (fun _ => rfl))
        (pss_cons (ps_setLc (i := 5) (own := [("_", 6)]) (g := gName 6) (tt := tYes) (te := tBM0 K "list" rPop (tVar 3)) rfl scFold.nd rfl rfl (sw_true rfl rfl rfl (by decide +kernel)) (pi_tup (pe_slice sl_tupA (pv 4) (po_some pe_int) po_none))
            (blkOk_by (own := [("_", 6)]) (N := ["shape", "bottom", "above", "done", "now", "children", "_"]) (sc := defScope sFold) (by decide +kernel)) (fun _ _ _ _ _ => pg_name (i := 6) scFold.nd rfl (Or.inl rfl)) (fun _ _ _ _ _ => pts_nil)
            (fun _ _ _ _ _ => pe_bm0 PySem.F.plainAttrs_list PySem.F.slot_list_pop PySem.F.type_list_pop mt_pop (pv 3)))
        (pss_one (ps_expr (pe_bm PySem.F.plainAttrs_list PySem.F.slot_list_append PySem.F.type_list_append mt_append (pv 3) (pa_cons (pe_callL (i := 2) GA hr rfl (Or.inl rfl) kA bA .nil pass0 (pa_cons (pe_ix ix_tup (pv 4) pe_int (fun _ _ => rfl)) (pa_cons (pv 5) pa_nil))) pa_nil)))))
        (pss_one (ps_expr (pe_bm PySem.F.plainAttrs_list PySem.F.slot_list_append PySem.F.type_list_append mt_append (pv 3) (pa_cons (pv 1) pa_nil)))))))
    (pss_one (ps_ret (pe_ix ix_list (pv 3) pe_int (fun _ _ => rfl))))), ?_⟩
  refine ⟨Nat.zero_le _, fun D hD => ?_⟩
  refine ⟨_, rfl, a, t, rfl, hR.same (same_new hD), hc, fun H1 ql as g1 hq eq rq => ?_⟩
  have hDq : ql ≠ D := fun z => by rw [z, upd_same] at hq; cases hq
  have eD1 : H1 D = some (.lst []) := g1 _ _ upd_same
  have gH : Same H H1 := (same_new hD).trans g1
  have hn : (as.map V.ref).length = (parts t).length := by rw [List.length_map, rq.len]
  have cap := parts_len t
  have all : Chain (parts t) [t] := by
    have z := chain_parts t .nil
    rwa [List.append_nil] at z
  refine ⟨ql, as.map V.ref, rfl, SqL.of eq, ?_⟩
  refine for_rev (xs := as.map V.ref) (fun i σ H2 => ∃ (y4 y5 y6 : Option V) (fs : List Sh), σ = [some (.ref a), some (.str "."), some (.ref g), some (.ref D), y4, y5, y6] ∧ Chain ((parts t).drop ((parts t).length - i)) fs ∧
      H2 D = some (.lst ((fs.map text).reverse.map V.str)) ∧ But D H1 H2) ⟨none, none, none, [], rfl, ?_, eD1, But.refl _ _⟩ (fun i σ H2 hi p => ?_) (fun i x σ H2 hi hx p => ?_) fun σ H2 p => ?_
  · rw [Nat.sub_zero, List.drop_length]
    exact .nil
  · obtain ⟨y4, y5, y6, fs, rfl, hch, e, b⟩ := p
    exact SqL.of (b _ _ hDq eq)
  · obtain ⟨y4, y5, y6, fs, rfl, hch, e, b⟩ := p
    rw [hn] at hi hx
    rw [List.getElem?_map] at hx
    obtain ⟨c, hc1, hc2⟩ : ∃ c, as[(parts t).length - 1 - i]? = some c ∧ x = .ref c := by
      cases z : as[(parts t).length - 1 - i]? with
      | none => rw [z] at hx; cases hx
      | some c => rw [z] at hx; exact ⟨c, rfl, (Option.some.inj hx).symm⟩
    subst hc2
    obtain ⟨s', hs', rc⟩ := rq.get' hc1
    obtain ⟨fs', hch'⟩ := chain_drop all ((parts t).length - (i + 1))
    have e1 : (parts t).length - 1 - i = (parts t).length - (i + 1) := by omega
    rw [e1] at hs'
    have e2 : (parts t).drop ((parts t).length - (i + 1)) = s' :: (parts t).drop ((parts t).length - i) := by
      rw [drop_at hs', show (parts t).length - (i + 1) + 1 = (parts t).length - i by omega]
    have hch2 := hch'
    rw [e2] at hch2
    obtain ⟨gs, e3, hk⟩ := chain_kids hch2
    subst e3
    have e4 := chain_one hch hk
    subst e4
    have hm := parts_mem t s' (List.mem_of_getElem? hs')
    have fl := chain_len hch
    rw [List.length_drop] at fl
    have rc2 := rc.but1 eD1 b
    obtain ⟨xs, cs, ex, ed, rk, hx3, hnil⟩ := rc2.kids
    have hcD : c ≠ D := fun z => by rw [z, e] at ex; cases ex
    refine ⟨_, rfl, _, .inr (.inl ⟨xs, SqT.of ex, rfl⟩), ?_⟩
    have eL : ((((kids s' ++ gs).map text).reverse.map V.str)).length ≤ 900 := by
      simp only [List.length_map, List.length_reverse]
      omega
    by_cases hcs : cs = []
    · obtain ⟨z1, z2⟩ := hnil hcs
      subst z1 z2
      refine iteF' ?_
      refine ⟨_, rfl, .inl ⟨rfl, _, SqL.of e⟩, _, rfl, D, _, _, rfl, rfl, e, small' (by omega), ?_⟩
      refine ⟨_, y5, y6, .nil :: gs, rfl, hch', ?_, b.upd⟩
      rw [upd_same]
      simp [kids, text]
    · have hne : (!xs.isEmpty) = true := by
        cases xs with
        | nil =>
          have := congrArg List.length ed
          simp at this
          exact absurd (List.length_eq_zero_iff.mp this.symm) hcs
        | cons _ _ => rfl
      rw [hne]
      refine iteT' ?_
      refine ⟨_, rfl, 1, rfl, tail_sl ex fun p1 H3 g3 e3 => ?_⟩
      rw [ed] at e3
      refine ⟨p1, rfl, ⟨_, SqT.of e3⟩, fun C hC => ?_⟩
      have hDC : D ≠ C := ne_of_none (g3 _ _ e) hC
      have hpC : p1 ≠ C := ne_of_none e3 hC
      have hkl : cs.length = (kids s').length := rk.len
      refine lc_tup (xs := cs.map V.ref) (fun j H4 => ∃ rest, (kids s').drop j = rest ∧ H4 C = some (.lst (((kids s').take j).map (fun s => V.str (text s)))) ∧ H4 D = some (.lst (((rest ++ gs).map text).reverse.map V.str)) ∧ ∀ b' o, b' ≠ C → b' ≠ D → H3 b' = some o → H4 b' = some o) ⟨kids s', rfl, ?_, ?_, ?_⟩ (fun j H4 hj pv => ?_) (fun j v H4 hv pv => ?_) fun H4 pv => ?_
      · rw [upd_same]
        rfl
      · rw [upd_ne hDC]
        exact g3 _ _ e
      · intro b' o n1 n2 z
        rw [upd_ne n1]
        exact z
      · obtain ⟨rest, _, _, _, k4⟩ := pv
        exact SqT.of (k4 _ _ hpC (fun z => by rw [z, g3 _ _ e] at e3; cases e3) e3)
      · obtain ⟨rest, er, eC, eD4, k4⟩ := pv
        have hj : j < (kids s').length := by
          have := (List.getElem?_eq_some_iff.mp hv).1
          rw [List.length_map] at this
          omega
        have er2 : rest = (kids s')[j] :: (kids s').drop (j + 1) := by rw [← er, List.drop_eq_getElem_cons hj]
        subst er2
        refine ⟨rfl, yes_turn ?_⟩
        refine ⟨_, rfl, .inl ⟨rfl, _, SqL.of eD4⟩, D, _, _, rfl, rfl, eD4, last_str _ _, ?_⟩
        have hk3 : (kids s').length ≤ 3 := by
          have := congrArg List.length ed
          rw [List.length_drop, List.length_map] at this
          omega
        refine ⟨_, (by rw [upd_ne hDC.symm]; exact eC), (by rw [List.length_map, List.length_take]; exact small' (by omega)), (kids s').drop (j + 1), rfl, ?_, ?_, ?_⟩
        · rw [upd_same, List.take_succ_eq_append_getElem hj, List.map_append]
          rfl
        · rw [upd_ne hDC, upd_same, List.cons_append, drop_str]
        · intro b' o n1 n2 z
          rw [upd_ne n1, upd_ne n2]
          exact k4 b' o n1 n2 z
      · obtain ⟨rest, er, eC, eD4, k4⟩ := pv
        rw [List.length_map, hkl, List.drop_length] at er
        rw [List.length_map, hkl, List.take_length] at eC
        subst er
        rw [List.nil_append] at eD4
        have hcC : c ≠ C := ne_of_none (g3 _ _ ex) hC
        have ex4 : H4 c = some (.tup xs) := k4 _ _ hcC hcD (g3 _ _ ex)
        have hHC : H1 C = none ∨ True := .inr trivial
        have b4 : But D H1 H4 := fun b' o n z => k4 b' o (ne_of_none (g3 _ _ (b b' o n z)) hC) n (g3 _ _ (b b' o n z))
        refine ⟨_, rfl, .inl ⟨rfl, _, SqL.of eD4⟩, rfl, _, rfl, ?_⟩
        have hones := hm.2 ho
        have hcnt : s'.count ≤ 100 := Nat.le_trans hm.1 hc
        have hkt := kids_text hones hcnt
        have eC' : H4 C = some (.lst (((kids s').map text).map V.str)) := by rw [eC, List.map_map]; rfl
        have gl : ((gs.map text).reverse.map V.str).length < 1000 := by
          simp only [List.length_map, List.length_reverse, List.length_append] at eL ⊢
          omega
        have fin : ∀ z : Str, z = text s' → (upd H4 D (.lst (((gs.map text).reverse.map V.str) ++ [V.str z]))) D = some (.lst (((s' :: gs).map text).reverse.map V.str)) := fun z hz => by
          rw [upd_same, hz]
          simp
        cases rc2 with
        | nil h' =>
          rw [ex] at h'
          cases h'
          exact absurd (by simpa using ed) hcs
        | @word _ c1 l u h' r' =>
          rw [ex] at h'
          cases h'
          refine ⟨c, _, 0, _, rfl, rfl, SqT.of ex4, rfl, _, rfl, l, C, _, rfl, eC', by have := hones.1.1; omega, hkt, .inl ⟨text u, rfl, ?_⟩⟩
          refine ⟨D, _, _, rfl, rfl, eD4, small' gl, _, _, _, _ :: gs, rfl, hch', fin _ rfl, b4.upd⟩
        | @tree _ c1 c2 l u1 u2 h' r1 r2 =>
          rw [ex] at h'
          cases h'
          refine ⟨c, _, 0, _, rfl, rfl, SqT.of ex4, rfl, _, rfl, l, C, _, rfl, eC', by have := hones.1.1; omega, hkt, .inr ⟨text u1, text u2, rfl, ?_⟩⟩
          refine ⟨D, _, _, rfl, rfl, eD4, small' gl, _, _, _, _ :: gs, rfl, hch', fin _ rfl, b4.upd⟩
  · obtain ⟨y4, y5, y6, fs, rfl, hch, e, b⟩ := p
    rw [hn, Nat.sub_self, List.drop_zero] at hch
    have z := chain_one hch all
    subst z
    exact ⟨_, rfl, D, _, 0, _, rfl, rfl, SqL.of e, rfl, q _ (b.same0 hD gH)⟩
end
end K01
set_option Elab.async false
set_option linter.all false
set_option maxRecDepth 100000
set_option maxHeartbeats 2000000
namespace K01
open PySem PySem.Spec PyProof.Rows L2
def spWrite : Sp := fun vs H Q _ => ∃ (a : Addr) (t : Sh), vs = [.ref a] ∧ Rep H a t ∧ t.count ≤ 100 ∧ Ones t ∧ ∀ H', Same H H' → Q (.str (text t)) H'
section
variable {P : Program} {w : World} {K : PySem.W.Frag} {mg : Str → Option Value} {base : Heap}
theorem ok_write {f g p : Addr} {fd pd : FuncData} {k : Nat} (F : Fun K "write_shape" "write_shape" sWrite f fd) (GF : FnOk P w K mg base CX0 k p pd ["shape", "bottom", "above"] (spFold g)) (bF : Binds K pd ["shape", "bottom", "above"] []) (kF : PySem.W.keepIn K (.ref p) = true) (mF : mg "folded" = some (.ref p))
    (mA : mg "_text_above" = some (.ref g)) : FnOk P w K mg base CX0 (k + 1) f fd ["shape"] spWrite := by
  refine F.ok scWrite (fun vs H Q E h => ?_) (fun cdv A outer s H vs Q E hr h => ?_)
  · obtain ⟨a, t, rfl, _⟩ := h
    rfl
  obtain ⟨a, t, rfl, hR, hc, ho, q⟩ := h
  refine ⟨_, pss_one (ps_ret (pe_call GF hr (by rfl) mF kF bF .nil pass0 (pa_cons (pv 0) (pa_cons pe_str (pa_cons (pe_glob (by rfl) mA (v := .ref g) rfl) pa_nil))))), ?_⟩
  exact ⟨_, rfl, a, t, rfl, hR, hc, ho, q⟩
end
end K01
set_option Elab.async false
set_option linter.all false
set_option maxRecDepth 100000
set_option maxHeartbeats 2000000
namespace K01
open PySem PySem.Spec PyProof.Rows L2 XS
def LA : List Str := ["a"]
def LB : List Str := ["a", "b"]
def LC : List Str := ["b", "d", "z"]
def LS : List (List Str) := [LA, LB, LC]
def LT : List Str := ["a", "b", "d", "z"]
def KindAt (H : Hp) (k : Addr) (two : Bool) (ls : List Str) : Prop := ∃ lab, H k = some (.tup [.int (if two then 2 else 1), .ref lab]) ∧ H lab = some (.tup (ls.map V.str)) ∧ ls ∈ LS
theorem KindAt.same {H H' : Hp} {k : Addr} {two : Bool} {ls : List Str} (g : Same H H') (h : KindAt H k two ls) : KindAt H' k two ls := by
  obtain ⟨lab, a, b, c⟩ := h
  exact ⟨lab, g _ _ a, g _ _ b, c⟩
theorem ls_cases {ls : List Str} (h : ls ∈ LS) : ls = LA ∨ ls = LB ∨ ls = LC := by simpa [LS] using h
theorem ls_letters {ls : List Str} (h : ls ∈ LS) : ∀ x ∈ ls, x ∈ LT := by
  rcases ls_cases h with rfl | rfl | rfl <;> decide +kernel
theorem ls_sorted {ls ys : List Str} (h : ls ∈ LS) (p : ys.Perm (once ls)) (s : sortedS ys = true) : ys = ls := by
  have hm : ∀ y ∈ ys, y ∈ ls := fun y hy => once_mem.mp (p.mem_iff.mp hy)
  have hn : ys.Nodup := p.nodup_iff.mpr (once_nodup ls [] List.nodup_nil)
  have hl : ys.length = (once ls).length := p.length_eq
  rcases ls_cases h with rfl | rfl | rfl
  · rw [show (once LA).length = 1 by decide +kernel] at hl
    match ys, hl with
    | [x], _ =>
      have := hm x (by simp)
      simp only [LA, List.mem_singleton] at this
      rw [this]
      rfl
  · rw [show (once LB).length = 2 by decide +kernel] at hl
    match ys, hl with
    | [x, y], _ =>
      have h1 := hm x (by simp)
      have h2 := hm y (by simp)
      simp only [LB, List.mem_cons, List.not_mem_nil, or_false] at h1 h2
      rcases h1 with rfl | rfl <;> rcases h2 with rfl | rfl <;> first | rfl | exact absurd s (by decide +kernel) | exact absurd hn (by decide +kernel)
  · rw [show (once LC).length = 3 by decide +kernel] at hl
    match ys, hl with
    | [x, y, z], _ =>
      have h1 := hm x (by simp)
      have h2 := hm y (by simp)
      have h3 := hm z (by simp)
      simp only [LC, List.mem_cons, List.not_mem_nil, or_false] at h1 h2 h3
      rcases h1 with rfl | rfl | rfl <;> rcases h2 with rfl | rfl | rfl <;> rcases h3 with rfl | rfl | rfl <;> first | rfl | exact absurd s (by decide +kernel) | exact absurd hn (by decide +kernel)
abbrev sWhole : Stmt := top 7
abbrev sIsKind : Stmt := top 8
abbrev sLetter : Stmt := top 9
abbrev sCheck : Stmt := top 10
theorem scWhole : FnScope ["value"] ["value"] (defScope sWhole) := ⟨rfl, rfl, rfl, by decide +kernel, rfl, by decide +kernel, by decide +kernel⟩
theorem scIsKind : FnScope ["value", "ways", "labels", "label"] ["value"] (defScope sIsKind) := ⟨rfl, rfl, rfl, by decide +kernel, rfl, by decide +kernel, by decide +kernel⟩
theorem scLetter : FnScope ["value"] ["value"] (defScope sLetter) := ⟨rfl, rfl, rfl, by decide +kernel, rfl, by decide +kernel, by decide +kernel⟩
theorem scCheck : FnScope ["kind"] ["kind"] (defScope sCheck) := ⟨rfl, rfl, rfl, by decide +kernel, rfl, by decide +kernel, by decide +kernel⟩
def spWhole : Sp := fun vs H Q _ => ∃ z : Int, vs = [.int z] ∧ Q (.bl true) H
def spLetter : Sp := fun vs H Q _ => ∃ x : Str, vs = [.str x] ∧ x ∈ LT ∧ Q (.bl true) H
def spIsKind : Sp := fun vs H Q _ => ∃ (k : Addr) (two : Bool) (ls : List Str), vs = [.ref k] ∧ KindAt H k two ls ∧ ∀ H', Same H H' → Q (.bl true) H'
def spCheck : Sp := fun vs H Q _ => ∃ (k : Addr) (two : Bool) (ls : List Str), vs = [.ref k] ∧ KindAt H k two ls ∧ ∀ H', Same H H' → Q .non H'
theorem lt_len : ∀ x ∈ LT, x.length = 1 := by decide +kernel
theorem lt_lo : ∀ x ∈ LT, (!decide (x.cps.toList < (Str.ofString "a").cps.toList)) = true := by decide +kernel
theorem lt_hi : ∀ x ∈ LT, (!decide ((Str.ofString "z").cps.toList < x.cps.toList)) = true := by decide +kernel
section
variable {P : Program} {w : World} {K : PySem.W.Frag} {mg : Str → Option Value} {base : Heap}
theorem ok_whole {f : Addr} {fd : FuncData} {k : Nat} (F : Fun K "is_whole" "is_whole" sWhole f fd) (mi : mg "isinstance" = none) (mb : mg "bool" = none) (mn : mg "int" = none) : FnOk P w K mg base CX0 (k + 1) f fd ["value"] spWhole := by
  refine F.ok scWhole (fun vs H Q E h => ?_) (fun cdv A outer s H vs Q E hr h => ?_)
  · obtain ⟨z, rfl, _⟩ := h
    rfl
  obtain ⟨z, rfl, q⟩ := h
  refine ⟨_, pss_one (ps_ret (pe_and (pe_isi (pv 0) mi mn rfl) (pe_one (pe_not (pe_isi (pv 0) mi mb rfl))))), ?_⟩
  refine ⟨_, rfl, isi (ty_int z) (by decide +kernel : kitB "int" "int" = some true) ⟨_, rfl, iteT' ?_⟩⟩
  exact ⟨_, rfl, isi (ty_int z) (by decide +kernel : kitB "int" "bool" = some false) ⟨_, rfl, q⟩⟩
theorem ok_letter {f : Addr} {fd : FuncData} {k : Nat} (F : Fun K "_is_letter" "_is_letter" sLetter f fd) (mi : mg "isinstance" = none) (ms : mg "str" = none) (ml : mg "len" = none) : FnOk P w K mg base CX0 (k + 1) f fd ["value"] spLetter := by
  refine F.ok scLetter (fun vs H Q E h => ?_) (fun cdv A outer s H vs Q E hr h => ?_)
  · obtain ⟨z, rfl, _⟩ := h
    rfl
  obtain ⟨x, rfl, hx, q⟩ := h
  refine ⟨_, pss_one (ps_ret (pe_and (pe_isi (pv 0) mi ms rfl) (pe_and (pe_cmpR op_eq (pe_callB call_len_str (by rfl) ml PySem.boot_len (pa_cons (pv 0) pa_nil)) pe_int (nomark _)) (pe_one (pe_chain op_le_str op_le_str pe_str (pv 0) pe_str))))), ?_⟩
  refine ⟨_, rfl, isi (ty_str x) (by decide +kernel : kitB "str" "str" = some true) ⟨_, rfl, iteT' ?_⟩⟩
  have e1 := lt_len x hx
  refine ⟨_, rfl, x, rfl, by rw [e1]; exact small (by decide), rfl, ?_⟩
  rw [e1]
  refine ⟨_, rfl, ifT rfl ?_⟩
  refine ⟨_, rfl, _, _, rfl, rfl, _, rfl, ?_⟩
  rw [lt_lo x hx]
  refine iteT' ⟨_, _, rfl, rfl, ?_⟩
  rw [lt_hi x hx]
  exact q
theorem ok_isKind {f g l : Addr} {fd gd ld : FuncData} {k : Nat} (F : Fun K "is_kind" "is_kind" sIsKind f fd) (GW : FnOk P w K mg base CX0 k g gd ["value"] spWhole) (bW : Binds K gd ["value"] []) (kW : PySem.W.keepIn K (.ref g) = true) (mW : mg "is_whole" = some (.ref g))
    (GL : FnOk P w K mg base CX0 k l ld ["value"] spLetter) (bL : Binds K ld ["value"] []) (kL : PySem.W.keepIn K (.ref l) = true) (mL : mg "_is_letter" = some (.ref l)) (mi : mg "isinstance" = none) (mt : mg "tuple" = none) (ml : mg "len" = none) (ma : mg "all" = none) (mli : mg "list" = none) (mso : mg "sorted" = none) (mse : mg "set" = none)
    {tM : Tok} (mM : mg "MOST_LABELS" = some (.int 3 tM)) : FnOk P w K mg base CX0 (k + 1) f fd ["value"] spIsKind := by
  refine F.ok scIsKind (fun vs H Q E h => ?_) (fun cdv A outer s H vs Q E hr h => ?_)
  · obtain ⟨a, two, ls, rfl, _⟩ := h
    rfl
  obtain ⟨a, two, ls, rfl, hK, q⟩ := h
  refine ⟨_, pss_cons (ps_if (PW.pt (pw_or (pt_not (pt_val (pe_isi (pv 0) mi mt rfl))) (pw_or1 (pt_cmpR op_ne (pe_callB call_len_seq (by rfl) ml PySem.boot_len (pa_cons (pv 0) pa_nil)) pe_int (nomark _))))) pss_never pss_nil)
    (pss_cons (ps_asg (pv 0) (pg_tup (by rfl) (pgs_cons (pg_name (i := 1) scIsKind.nd rfl (.inl rfl)) (pgs_cons (pg_name (i := 2) scIsKind.nd rfl (.inl rfl)) pgs_nil))))
    (pss_cons (ps_if (PW.pt (pw_or (pt_not (pt_val (pe_call GW hr (by rfl) mW kW bW .nil pass0 (pa_cons (pv 1) pa_nil)))) (pw_or1 (pt_cmpR op_notIn_seq (pv 1) (pe_tup (pa_cons pe_int (pa_cons pe_int pa_nil))) (by with_unfolding_all rfl))))) pss_never pss_nil)
    (pss_cons (ps_if (PW.pt (pw_or (pt_not (pt_val (pe_isi (pv 2) mi mt rfl))) (pw_or1 (pt_not (pt_chain op_le op_le pe_int (pe_callB call_len_seq (by rfl) ml PySem.boot_len (pa_cons (pv 2) pa_nil)) (pe_glob (by rfl) mM (v := .int 3) ⟨_, rfl⟩)))))) pss_never pss_nil)
    (pss_cons (ps_if (pt_not (pt_val (pe_callB (cr_all rfl) (by rfl) ma (by decide +kernel) (pa_cons (pe_lc (own := [("label", 3)]) (g := gName 3) (tt := tYes) (te := tCall spLetter [] E0 (tCons (tVar 3) tNil)) rfl scIsKind.nd (pi_tup (pv 2))
        (blkOk_by (own := [("label", 3)]) (N := ["value", "ways", "labels", "label"]) (sc := defScope sIsKind) (by decide +kernel)) (fun _ _ _ _ _ => pg_name (i := 3) scIsKind.nd rfl (Or.inl rfl)) (fun _ _ _ _ _ => pts_nil)
        (fun _ _ _ _ _ => pe_call GL hr (by rfl) mL kL bL .nil pass0 (pa_cons (pv 3) pa_nil))) pa_nil)))) pss_never pss_nil)
    (pss_one (ps_ret (pe_cmpR (op_eqD hr.units) (pe_callTy call_list_of (by rfl) mli (by decide +kernel) (pa_cons (pv 2) pa_nil)) (pe_callB (cr_sortedX rfl) (by rfl) mso (by decide +kernel) (pa_cons (pe_callTy (cr_setX rfl) (by rfl) mse (by decide +kernel) (pa_cons (pv 2) pa_nil)) pa_nil)) (nomark _)))))))), ?_⟩
  obtain ⟨lab, ek, el, hls⟩ := hK
  have hlen : 1 ≤ ls.length ∧ ls.length ≤ 3 := by
    rcases ls_cases hls with rfl | rfl | rfl <;> decide +kernel
  refine ⟨_, rfl, isi (ty_tup (SqT.of ek)) (by decide +kernel : kitB "tuple" "tuple" = some true) ⟨_, rfl, iteNT ?_⟩⟩
  refine ⟨_, rfl, a, _, rfl, .inr (SqT.of ek), rfl, _, rfl, ?_⟩
  refine iteNS rfl ?_
  refine ⟨_, rfl, a, _, rfl, SqT.of ek, rfl, _, _, rfl, _, _, rfl, rfl, ?_⟩
  refine ⟨_, rfl, _, rfl, true, rfl, iteNT ?_⟩
  refine ⟨_, rfl, (by show 2 ≤ sizeLine; exact small (by decide)), fun t ht => ?_⟩
  have g1 : Same H (upd H t (.tup [.int 1, .int 2])) := same_new ht
  refine ⟨t, [.int 1, .int 2], rfl, .inr (SqT.of upd_same), rfl, rfl, false, ?_, iteF' ?_⟩
  · cases two <;> rfl
  have el1 := g1 _ _ el
  refine ⟨_, rfl, isi (ty_tup (SqT.of el1)) (by decide +kernel : kitB "tuple" "tuple" = some true) ⟨_, rfl, iteNT ?_⟩⟩
  refine ⟨_, rfl, lab, _, rfl, .inr (SqT.of el1), _, _, rfl, rfl, true, ?_, iteT' ⟨_, _, rfl, rfl, true, ?_, iteNT ?_⟩⟩
  · rw [List.length_map]
    exact congrArg V.bl (decide_eq_true (by omega))
  · rw [List.length_map]
    exact congrArg V.bl (decide_eq_true (by omega))
  refine ⟨_, rfl, lab, rfl, ⟨_, SqT.of el1⟩, fun C hC => ?_⟩
  have g2 : Same H (upd (upd H t (.tup [.int 1, .int 2])) C (.lst [])) := g1.trans (same_new hC)
  have hCn : H C = none := g1.free hC
  refine lc_tup (xs := ls.map V.str) (fun i H2 => Same H H2 ∧ H2 C = some (.lst ((List.replicate i true).map V.bl))) ⟨g2, upd_same⟩ (fun i H2 hi p => SqT.of (p.1 _ _ el)) (fun i x H2 hx p => ?_) fun H2 p => ?_
  · have hi := (List.getElem?_eq_some_iff.mp hx).1
    rw [List.length_map] at hi
    rw [List.getElem?_map, List.getElem?_eq_getElem hi] at hx
    obtain rfl : V.str ls[i] = x := Option.some.inj hx
    refine ⟨rfl, yes_turn ?_⟩
    refine ⟨_, rfl, _, rfl, ls_letters hls _ (List.getElem_mem hi), _, p.2, (by rw [List.length_map, List.length_replicate]; exact small' (by omega)), same_fresh hCn p.1, ?_⟩
    rw [upd_same, List.replicate_succ', List.map_append]
    rfl
  · refine ⟨C, _, rfl, SqL.of p.2, true, ?_, iteNT ?_⟩
    · exact congrArg V.bl (by simp)
    refine ⟨_, rfl, lab, _, rfl, .inr (SqT.of (p.1 _ _ el)), fun L hL => ?_⟩
    have g3 : Same H (upd H2 L (.lst (ls.map V.str))) := p.1.trans (same_new hL)
    refine ⟨_, rfl, lab, ls, rfl, SqT.of (g3 _ _ el), by omega, fun S hS => ?_⟩
    have hLS : L ≠ S := ne_of_none upd_same hS
    refine ⟨S, _, rfl, upd_same, ?_, fun ys p2 hp hs hn => ?_⟩
    · rcases ls_cases hls with rfl | rfl | rfl <;> decide +kernel
    obtain rfl := ls_sorted hls hp hs
    have hLp : L ≠ p2 := ne_of_none (show _ = some (HO.lst (ys.map V.str)) by rw [upd_ne hLS, upd_same]) hn
    have dp : ∀ (H3 : Hp) (xs : List Str), DpAll K H3 (xs.map V.str) (xs.map PyData.str) := fun H3 xs => by
      induction xs with
      | nil => exact .nil
      | cons x r ih => exact .cons (.str x) ih
    refine ⟨.list (ys.map PyData.str), .list (ys.map PyData.str), .lst (SqL.of (by rw [upd_ne hLp, upd_ne hLS, upd_same])) (dp _ _), .lst (SqL.of upd_same) (dp _ _), ?_, ?_, ?_⟩
    · rcases ls_cases hls with rfl | rfl | rfl <;> decide +kernel
    · rcases ls_cases hls with rfl | rfl | rfl <;> decide +kernel
    · have e : PyData.eqv (.list (ys.map PyData.str)) (.list (ys.map PyData.str)) = true := by
        rcases ls_cases hls with rfl | rfl | rfl <;> decide +kernel
      rw [e]
      exact q _ ((g3.trans (same_new hS)).trans (same_new hn))
theorem ok_check {f g : Addr} {fd gd : FuncData} {k : Nat} (F : Fun K "check_kind" "check_kind" sCheck f fd) (G : FnOk P w K mg base CX0 k g gd ["value"] spIsKind) (bG : Binds K gd ["value"] []) (kG : PySem.W.keepIn K (.ref g) = true) (mG : mg "is_kind" = some (.ref g)) : FnOk P w K mg base CX0 (k + 1) f fd ["kind"] spCheck := by
  refine F.ok scCheck (fun vs H Q E h => ?_) (fun cdv A outer s H vs Q E hr h => ?_)
  · obtain ⟨a, two, ls, rfl, _⟩ := h
    rfl
  obtain ⟨a, two, ls, rfl, hK, q⟩ := h
  refine ⟨_, pss_one (ps_if (pt_not (pt_val (pe_call G hr (by rfl) mG kG bG .nil pass0 (pa_cons (pv 0) pa_nil)))) pss_never pss_nil), ?_⟩
  exact ⟨_, rfl, a, two, ls, rfl, hK, fun H' g1 => ⟨true, rfl, iteNT (q H' g1)⟩⟩
end
end K01
set_option Elab.async false
set_option linter.all false
set_option maxRecDepth 100000
set_option maxHeartbeats 2000000
namespace K01
open PySem PySem.Spec PyProof.Rows L2
theorem while_n {c : TT} {tb u : TS} {D : Ends} {σ : L2.St} {H : Hp} (Pv : Nat → L2.St → Hp → Prop) (m0 : Nat) (h0 : Pv m0 σ H)
    (hs : ∀ m σ H, Pv m σ H → c σ H fun b H1 => if b = true then ∃ N : L2.St → Hp → Prop, (∀ σ' H', N σ' H' → ∃ m', m' < m ∧ Pv m' σ' H') ∧ tb { nx := N, ct := N, bk := u D, rt := D.rt } σ H1 else u D σ H1) : tSeq (tWhile c tb) u D σ H := ⟨Pv, ⟨m0, h0⟩, hs⟩
/-! ### addresses one by one -/
def Al {α : Type} (R : Addr → α → Prop) : List Addr → List α → Prop
  | [], [] => True
  | a :: as, s :: ss => R a s ∧ Al R as ss
  | _, _ => False
theorem Al.mono {α : Type} {R R' : Addr → α → Prop} (g : ∀ a x, R a x → R' a x) : ∀ {as : List Addr} {ss : List α}, Al R as ss → Al R' as ss
  | [], [], _ => True.intro
  | _ :: _, _ :: _, ⟨h, t⟩ => ⟨g _ _ h, Al.mono g t⟩
theorem Al.append {α : Type} {R : Addr → α → Prop} : ∀ {as bs : List Addr} {ss ts : List α}, Al R as ss → Al R bs ts → Al R (as ++ bs) (ss ++ ts)
  | [], _, [], _, _, h => h
  | _ :: _, _, _ :: _, _, ⟨h, t⟩, q => ⟨h, t.append q⟩
theorem Al.len {α : Type} {R : Addr → α → Prop} : ∀ {as : List Addr} {ss : List α}, Al R as ss → as.length = ss.length
  | [], [], _ => rfl
  | _ :: _, _ :: _, ⟨_, t⟩ => congrArg (· + 1) t.len
theorem Al.snoc {α : Type} {R : Addr → α → Prop} {a : Addr} {s : α} {as : List Addr} {ss : List α} (t : Al R as ss) (h : R a s) : Al R (as ++ [a]) (ss ++ [s]) := t.append ⟨h, True.intro⟩
theorem Al.revs {α : Type} {R : Addr → α → Prop} {cs : List Addr} {a : Addr} {ss : List α} (h : Al R (cs ++ [a]).reverse ss) : ∃ s r, ss = s :: r ∧ R a s ∧ Al R cs.reverse r := by
  rw [List.reverse_append] at h
  cases ss with
  | nil => exact h.elim
  | cons s r => exact ⟨s, r, rfl, h.1, h.2⟩
/-- the truth of a name -/
def tTru (K : PySem.W.Frag) (i : Nat) : TT := fun σ H Q => tVar i σ H fun x H' => ∃ k, TruV K x H' k ∧ Q k H'
/-! ### labels -/
def labs : Sh → List Str
  | .nil => []
  | .word l t => l :: labs t
  | .tree l a b => l :: (labs a ++ labs b)
def lab1 : Sh → List Str
  | .nil => []
  | .word l _ => [l]
  | .tree l _ _ => [l]
theorem labs_parts : ∀ t : Sh, (parts t).flatMap lab1 = labs t
  | .nil => rfl
  | .word l t => by simp [parts, labs, lab1, labs_parts t]
  | .tree l a b => by simp [parts, labs, lab1, labs_parts a, labs_parts b]
theorem labs_len : ∀ t : Sh, (labs t).length = t.count
  | .nil => rfl
  | .word l t => by simp [labs, Sh.count, labs_len t]
  | .tree l a b => by simp [labs, Sh.count, labs_len a, labs_len b]
abbrev sLabels : Stmt := top 13
abbrev sSize : Stmt := top 15
theorem scLabels : FnScope ["shape", "now"] ["shape"] (defScope sLabels) := ⟨rfl, rfl, rfl, by decide +kernel, rfl, by decide +kernel, by decide +kernel⟩
theorem scSize : FnScope ["shape"] ["shape"] (defScope sSize) := ⟨rfl, rfl, rfl, by decide +kernel, rfl, by decide +kernel, by decide +kernel⟩
def spLabels : Sp := fun vs H Q _ => ∃ (a : Addr) (t : Sh), vs = [.ref a] ∧ Rep H a t ∧ t.count ≤ 100 ∧ ∀ H' q, Same H H' → H' q = some (.lst ((labs t).map V.str)) → Q (.ref q) H'
def spSize : Sp := fun vs H Q _ => ∃ (a : Addr) (t : Sh), vs = [.ref a] ∧ Rep H a t ∧ t.count ≤ 100 ∧ ∀ H', Same H H' → Q (.int (t.count : Nat)) H'
section
variable {P : Program} {w : World} {K : PySem.W.Frag} {mg : Str → Option Value} {base : Heap}
theorem ok_labels {f p : Addr} {fd pd : FuncData} {k : Nat} (F : Fun K "labels_of" "labels_of" sLabels f fd) (GP : FnOk P w K mg base CX0 k p pd ["shape"] spParts) (bP : Binds K pd ["shape"] []) (kP : PySem.W.keepIn K (.ref p) = true) (mP : mg "_parts" = some (.ref p)) : FnOk P w K mg base CX0 (k + 1) f fd ["shape"] spLabels := by
  refine F.ok scLabels (fun vs H Q E h => ?_) (fun cdv A outer s H vs Q E hr h => ?_)
  · obtain ⟨a, t, rfl, _⟩ := h
    rfl
  obtain ⟨a, t, rfl, hR, hc, q⟩ := h
  refine ⟨_, pss_one (ps_ret (pe_lc (own := [("now", 1)]) (g := gName 1) (tt := tTru K 1) (te := tOp (rIxT K) (tVar 1) (tC (.int 0))) rfl scLabels.nd
    (pi_list (pe_call GP hr (by rfl) mP kP bP .nil pass0 (pa_cons (pv 0) pa_nil))) (blkOk_by (own := [("now", 1)]) (N := ["shape", "now"]) (sc := defScope sLabels) (by decide +kernel)) (fun _ _ _ _ _ => pg_name (i := 1) scLabels.nd rfl (Or.inl rfl))
    (fun _ _ _ _ _ => pts_one (pt_truth (pv 1) (fun _ => rfl))) (fun _ _ _ _ _ => pe_ix ix_tup (pv 1) pe_int (fun _ _ => rfl)))), ?_⟩
  refine ⟨_, rfl, a, t, rfl, hR, hc, fun H1 l as g1 hl el rl => ?_⟩
  refine ⟨l, rfl, ⟨_, SqL.of el⟩, fun D hD => ?_⟩
  have hD0 : H D = none := g1.free hD
  have hlD : l ≠ D := ne_of_none el hD
  refine lc_list (xs := as.map V.ref) (fun i H2 => Same H1 H2 ∧ H2 D = some (.lst ((((parts t).take i).flatMap lab1).map V.str))) ⟨same_new hD, upd_same⟩ (fun i H2 hi p => SqL.of (p.1 _ _ el)) (fun i x H2 hx p => ?_) fun H2 p => ?_
  · obtain ⟨g2, eD⟩ := p
    rw [List.getElem?_map] at hx
    obtain ⟨c, hc1, rfl⟩ : ∃ c, as[i]? = some c ∧ x = V.ref c := by
      cases z : as[i]? with
      | none => rw [z] at hx; cases hx
      | some c => rw [z] at hx; exact ⟨c, rfl, (Option.some.inj hx).symm⟩
    obtain ⟨s', hs', rc⟩ := rl.get' hc1
    have rc2 := rc.same g2
    have tk : (parts t).take (i + 1) = (parts t).take i ++ [s'] := by rw [List.take_add_one, hs']; rfl
    have cap := parts_len t
    have lens : (((parts t).take i).flatMap lab1).length ≤ 300 := by
      have h1 : ∀ L : List Sh, (L.flatMap lab1).length ≤ L.length := fun L => by
        induction L with
        | nil => simp
        | cons x r ih =>
          rw [List.flatMap_cons, List.length_append, List.length_cons]
          have : (lab1 x).length ≤ 1 := by cases x <;> simp [lab1]
          omega
      have := h1 ((parts t).take i)
      rw [List.length_take] at this
      omega
    refine ⟨rfl, _, rfl, ?_⟩
    cases rc2 with
    | nil h =>
      refine ⟨false, .inr (.inl ⟨[], SqT.of h, rfl⟩), iteF' ?_⟩
      exact ⟨g2, by rw [eD, tk, List.flatMap_append]; simp [lab1]⟩
    | @word _ c' l' u h r =>
      refine ⟨true, .inr (.inl ⟨_, SqT.of h, rfl⟩), iteT' ?_⟩
      refine ⟨_, rfl, c, _, 0, _, rfl, rfl, SqT.of h, rfl, _, eD, small' (by rw [List.length_map]; omega), same_fresh hD g2, ?_⟩
      rw [upd_same, tk, List.flatMap_append, List.map_append]
      rfl
    | @tree _ c' d' l' u v h r1 r2 =>
      refine ⟨true, .inr (.inl ⟨_, SqT.of h, rfl⟩), iteT' ?_⟩
      refine ⟨_, rfl, c, _, 0, _, rfl, rfl, SqT.of h, rfl, _, eD, small' (by rw [List.length_map]; omega), same_fresh hD g2, ?_⟩
      rw [upd_same, tk, List.flatMap_append, List.map_append]
      rfl
  · obtain ⟨g2, eD⟩ := p
    rw [List.length_map, rl.len, List.take_length, labs_parts] at eD
    exact q _ D (g1.trans g2) eD
theorem ok_size {f p : Addr} {fd pd : FuncData} {k : Nat} (F : Fun K "size" "size" sSize f fd) (GP : FnOk P w K mg base CX0 k p pd ["shape"] spLabels) (bP : Binds K pd ["shape"] []) (kP : PySem.W.keepIn K (.ref p) = true) (mP : mg "labels_of" = some (.ref p)) (ml : mg "len" = none) : FnOk P w K mg base CX0 (k + 1) f fd ["shape"] spSize := by
  refine F.ok scSize (fun vs H Q E h => ?_) (fun cdv A outer s H vs Q E hr h => ?_)
  · obtain ⟨a, t, rfl, _⟩ := h
    rfl
  obtain ⟨a, t, rfl, hR, hc, q⟩ := h
  refine ⟨_, pss_one (ps_ret (pe_callB call_len_seq (by rfl) ml PySem.boot_len (pa_cons (pe_call GP hr (by rfl) mP kP bP .nil pass0 (pa_cons (pv 0) pa_nil)) pa_nil))), ?_⟩
  refine ⟨_, rfl, a, t, rfl, hR, hc, fun H1 l g1 el => ⟨l, _, rfl, .inl (SqL.of el), ?_⟩⟩
  rw [List.length_map, labs_len]
  exact q _ g1
end
end K01
set_option Elab.async false
set_option linter.all false
set_option maxRecDepth 100000
set_option maxHeartbeats 2000000
namespace K01
open PySem PySem.Spec PyProof.Rows L2
/-- tuples stay -/
def KeepT (H H' : Hp) : Prop := ∀ b xs, H b = some (.tup xs) → H' b = some (.tup xs)
theorem KeepT.refl (H : Hp) : KeepT H H := fun _ _ h => h
theorem KeepT.trans {H H1 H2 : Hp} (a : KeepT H H1) (b : KeepT H1 H2) : KeepT H H2 := fun c xs h => b c xs (a c xs h)
theorem KeepT.of {H H' : Hp} (g : Same H H') : KeepT H H' := fun b xs h => g b _ h
theorem KeepT.put {H : Hp} {a : Addr} {xs : List V} (e : H a = some (.lst xs)) (ys : List V) : KeepT H (upd H a (.lst ys)) := fun b zs h => by
  rw [upd_ne (fun z => by rw [z, e] at h; cases h)]
  exact h
theorem Rep.keepT {H H' : Hp} (g : KeepT H H') : ∀ {t : Sh} {a : Addr}, Rep H a t → Rep H' a t
  | _, _, .nil h => .nil (g _ _ h)
  | _, _, .word h r => .word (g _ _ h) (r.keepT g)
  | _, _, .tree h r1 r2 => .tree (g _ _ h) (r1.keepT g) (r2.keepT g)
/-- the paths of a shape that stands at π -/
def pths (π : List Int) : Sh → List (List Int)
  | .nil => []
  | .word _ t => π :: pths (π ++ [0]) t
  | .tree _ a b => π :: (pths (π ++ [0]) a ++ pths (π ++ [1]) b)
def kidsP (π : List Int) : Sh → List (List Int × Sh)
  | .nil => []
  | .word _ t => [(π ++ [0], t)]
  | .tree _ a b => [(π ++ [0], a), (π ++ [1], b)]
def own (π : List Int) : Sh → List (List Int)
  | .nil => []
  | _ => [π]
theorem pths_eq (π : List Int) (t : Sh) : pths π t = own π t ++ (kidsP π t).flatMap fun q => pths q.1 q.2 := by
  cases t <;> simp [pths, own, kidsP]
theorem pths_len (π : List Int) (t : Sh) : (pths π t).length = t.count := by
  induction t generalizing π with
  | nil => rfl
  | word l t ih => simp [pths, Sh.count, ih]
  | tree l a b i1 i2 => simp [pths, Sh.count, i1, i2]
theorem kidsP_snd (π : List Int) (t : Sh) : (kidsP π t).map (·.2) = kids t := by cases t <;> rfl
def WItem (H : Hp) (w : Addr) (q : List Int × Sh) : Prop := ∃ p a, H w = some (.tup [.ref p, .ref a]) ∧ H p = some (.tup (q.1.map V.int)) ∧ Rep H a q.2
def PItem (H : Hp) (p : Addr) (π : List Int) : Prop := H p = some (.tup (π.map V.int))
theorem WItem.keep {H H' : Hp} (g : KeepT H H') (w : Addr) (q : List Int × Sh) (h : WItem H w q) : WItem H' w q := by
  obtain ⟨p, a, e1, e2, r⟩ := h
  exact ⟨p, a, g _ _ e1, g _ _ e2, r.keepT g⟩
theorem PItem.keep {H H' : Hp} (g : KeepT H H') (w : Addr) (q : List Int) (h : PItem H w q) : PItem H' w q := g _ _ h
theorem Al.reverse {α : Type} {R : Addr → α → Prop} : ∀ {as : List Addr} {ss : List α}, Al R as ss → Al R as.reverse ss.reverse
  | [], [], _ => True.intro
  | a :: as, s :: ss, ⟨h, t⟩ => by
    rw [List.reverse_cons, List.reverse_cons]
    exact t.reverse.snoc h
theorem kidsP_get {π : List Int} {sh s : Sh} {j : Nat} (h : (kids sh)[j]? = some s) : (kidsP π sh)[j]? = some (π ++ [(j : Int)], s) := by
  cases sh with
  | nil => simp [kids] at h
  | word l t =>
    match j, h with
    | 0, h => simp [kids] at h; subst h; rfl
    | j + 1, h => simp [kids] at h
  | tree l a b =>
    match j, h with
    | 0, h => simp [kids] at h; subst h; rfl
    | 1, h => simp [kids] at h; subst h; rfl
    | j + 2, h => simp [kids] at h
theorem kidsP_len (π : List Int) (t : Sh) : (kidsP π t).length = (kids t).length := by rw [← kidsP_snd π t, List.length_map]
/-- path + (step,) -/
theorem cat_path {K : PySem.W.Frag} {H : Hp} {p s1 : Addr} {π : List Int} {j : Int} {Q : VK} (e1 : H p = some (.tup (π.map V.int))) (e2 : H s1 = some (.tup [.int j])) (hz : π.length ≤ 900) (q : ∀ pp H', Same H H' → H' pp = some (.tup ((π ++ [j]).map V.int)) → Q (.ref pp) H') : rCatA K (.ref p) (.ref s1) H Q := by
  refine ⟨p, s1, _, _, rfl, rfl, SqT.of e1, SqT.of e2, by rw [List.length_map]; exact small (by show π.length + 1 ≤ 1000; omega), fun h => ?_, (fun _ h => by cases h), fun _ _ pp hp => ?_⟩
  · refine q s1 H (Same.refl H) ?_
    have : π = [] := List.map_eq_nil_iff.mp h
    subst this
    exact e2
  · refine q pp _ (same_new hp) ?_
    rw [upd_same, List.map_append]
    rfl
abbrev sPaths : Stmt := top 16
theorem scPaths : FnScope ["shape", "waiting", "found", "path", "now", "step"] ["shape"] (defScope sPaths) := ⟨rfl, rfl, rfl, by decide +kernel, rfl, by decide +kernel, by decide +kernel⟩
def spPaths : Sp := fun vs H Q _ => ∃ (a : Addr) (t : Sh), vs = [.ref a] ∧ Rep H a t ∧ t.count ≤ 100 ∧ ∀ H' q as, Same H H' → H' q = some (.lst (as.map V.ref)) → Al (PItem H') as (pths [] t) → Q (.ref q) H'
def wsum (ws : List (List Int × Sh)) : Nat := (ws.map fun q => (parts q.2).length).sum
theorem wsum_len (ws : List (List Int × Sh)) : ws.length ≤ wsum ws := by
  induction ws with
  | nil => exact Nat.le_refl _
  | cons x r ih =>
    unfold wsum at ih ⊢
    rw [List.map_cons, List.sum_cons, List.length_cons, parts_eq, List.length_cons]
    omega
theorem wsum_cons (π : List Int) (t : Sh) (r : List (List Int × Sh)) : wsum ((π, t) :: r) = wsum (kidsP π t ++ r) + 1 := by
  unfold wsum
  rw [List.map_cons, List.sum_cons, List.map_append, List.sum_append]
  cases t <;> simp [kidsP, parts] <;> omega
section
variable {P : Program} {w : World} {K : PySem.W.Frag} {mg : Str → Option Value} {base : Heap}
theorem ok_paths {f : Addr} {fd : FuncData} {k : Nat} (F : Fun K "paths" "paths" sPaths f fd) (ml : mg "len" = none) (mr : mg "reversed" = none) (mg' : mg "range" = none) : FnOk P w K mg base CX0 (k + 1) f fd ["shape"] spPaths := by
  refine F.ok scPaths (fun vs H Q E h => ?_) (fun cdv A outer s H vs Q E hr h => ?_)
  · obtain ⟨a, t, rfl, _⟩ := h
    rfl
  obtain ⟨a, t, rfl, hR, hc, q⟩ := h
  refine ⟨_, pss_cons (ps_set (i := 1) scPaths.nd rfl (Or.inl rfl) (pe_lst (pa_cons (pe_tup (pa_cons (pe_tup pa_nil) (pa_cons (pv 0) pa_nil))) pa_nil)))
    (pss_cons (ps_set (i := 2) scPaths.nd rfl (Or.inl rfl) (pe_lst pa_nil))
    (pss_cons (ps_while PassesOwn.never (pt_truth (pv 1) (fun _ => rfl))
      (pss_cons (ps_asg (pe_bm0 PySem.F.plainAttrs_list PySem.F.slot_list_pop PySem.F.type_list_pop mt_pop (pv 1)) (pg_tup (by rfl) (pgs_cons (pg_name (i := 3) scPaths.nd rfl (.inl rfl)) (pgs_cons (pg_name (i := 4) scPaths.nd rfl (.inl rfl)) pgs_nil))))
      (C8.pss_cut (ps_if (pt_truth (pv 4) (fun _ => rfl)) (pss_one (ps_expr (pe_bm PySem.F.plainAttrs_list PySem.F.slot_list_append PySem.F.type_list_append mt_append (pv 2) (pa_cons (pv 3) pa_nil)))) pss_nil)
      (pss_one (ps_for PassesOwn.never rfl (pi_revR (by rfl) mr (prg_1 (by rfl) mg' (pe_callB call_len_seq (by rfl) ml PySem.boot_len (pa_cons (pe_slice sl_tupA (pv 4) (po_some pe_int) po_none) pa_nil)))) (pg_name (i := 5) scPaths.nd rfl (Or.inl rfl))
        (pss_one (ps_expr (pe_bm PySem.F.plainAttrs_list PySem.F.slot_list_append PySem.F.type_list_append mt_append (pv 1) (pa_cons (pe_tup (pa_cons (pe_op op_catA (pv 3) (pe_tup (pa_cons (pv 5) pa_nil))) (pa_cons (pe_ix ix_tup (pv 4) (pe_op op_add (pv 5) pe_int) (fun _ _ => rfl)) pa_nil))) pa_nil)))))))))
    (pss_one (ps_ret (pv 2))))), ?_⟩
  refine ⟨(by show 0 ≤ sizeLine; exact Nat.zero_le _), fun p0 h0 => ⟨_, rfl, (by show 2 ≤ sizeLine; exact small (by decide)), fun w0 hw0 => ⟨(by show 1 ≤ sizeLine; exact small (by decide)), fun W hW => ⟨(by show 0 ≤ sizeLine; exact Nat.zero_le _), fun D hD => ?_⟩⟩⟩⟩
  have g1 := same_new (o := .tup []) h0
  have g2 := same_new (o := .tup [.ref p0, .ref a]) hw0
  have g3 := same_new (o := .lst [.ref w0]) hW
  have g4 := same_new (o := .lst []) hD
  have gH := ((g1.trans g2).trans g3).trans g4
  have hW0 : H W = none := (g1.trans g2).free hW
  have hD0 : H D = none := ((g1.trans g2).trans g3).free hD
  have hWD : W ≠ D := ne_of_none upd_same hD
  have hDW : D ≠ W := hWD.symm
  have cap := parts_len t
  refine gn (nxs (while_n (fun m σ H1 => ∃ (y3 y4 y5 : Option V) (as bs : List Addr) (ws : List (List Int × Sh)) (fs : List (List Int)), σ = [some (.ref a), some (.ref W), some (.ref D), y3, y4, y5] ∧ Same H H1 ∧ H1 W = some (.lst (as.map V.ref)) ∧ H1 D = some (.lst (bs.map V.ref)) ∧
    Al (WItem H1) as.reverse ws ∧ Al (PItem H1) bs fs ∧ fs ++ (ws.flatMap fun q => pths q.1 q.2) = pths [] t ∧ m = wsum ws ∧ m ≤ 201 ∧ ∀ q ∈ ws, q.1.length + q.2.count ≤ 100) (parts t).length ?_ (fun m σ H1 p => ?_)))
  · refine ⟨none, none, none, [w0], [], [([], t)], [], rfl, gH, g4 _ _ upd_same, upd_same, ⟨⟨p0, a, (g3.trans g4) _ _ upd_same, ((g2.trans g3).trans g4) _ _ upd_same, hR.same gH⟩, True.intro⟩, True.intro, by simp, by simp [wsum], by omega, fun q hq => by
      rw [List.mem_singleton.mp hq]
      show 0 + t.count ≤ 100
      omega⟩
  · obtain ⟨y3, y4, y5, as, bs, ws, fs, rfl, g, eW, eD, rW, rD, ep, em, hm, hd⟩ := p
    refine ⟨_, rfl, _, .inl ⟨_, SqL.of eW, rfl⟩, ?_⟩
    rcases List.eq_nil_or_concat as with e | ⟨cs, x, e⟩
    · subst e
      refine iteF' ?_
      have hw : ws = [] := by
        cases ws with
        | nil => rfl
        | cons _ _ => exact rW.elim
      subst hw
      rw [List.flatMap_nil, List.append_nil] at ep
      subst ep
      exact ⟨_, rfl, q _ _ _ g eD rD⟩
    · rw [List.concat_eq_append] at e
      subst e
      obtain ⟨⟨π, sh⟩, r, e2, ⟨p, c, ex, epi, rc⟩, rr⟩ := rW.revs
      subst e2
      have hne : (!((cs ++ [x]).map V.ref).isEmpty) = true := by simp
      rw [hne]
      refine iteT' ⟨fun σ' H' => ∃ m', m' < m ∧ ∃ (y3 y4 y5 : Option V) (as bs : List Addr) (ws : List (List Int × Sh)) (fs : List (List Int)), σ' = [some (.ref a), some (.ref W), some (.ref D), y3, y4, y5] ∧ Same H H' ∧ H' W = some (.lst (as.map V.ref)) ∧ H' D = some (.lst (bs.map V.ref)) ∧
        Al (WItem H') as.reverse ws ∧ Al (PItem H') bs fs ∧ fs ++ (ws.flatMap fun q => pths q.1 q.2) = pths [] t ∧ m' = wsum ws ∧ m' ≤ 201 ∧ ∀ q ∈ ws, q.1.length + q.2.count ≤ 100, fun σ' H' h => h, ?_⟩
      have hlast : ((cs ++ [x]).map V.ref)[((cs ++ [x]).map V.ref).length - 1]? = some (V.ref x) := by simp
      have hdl : ((cs ++ [x]).map V.ref).dropLast = cs.map V.ref := by simp
      have k2 : KeepT H1 (upd H1 W (.lst (cs.map V.ref))) := KeepT.put eW _
      refine ⟨_, rfl, .inl ⟨rfl, _, SqL.of eW⟩, W, _, _, rfl, rfl, eW, hlast, ?_⟩
      rw [hdl]
      refine ⟨x, _, rfl, SqT.of (k2 _ _ ex), rfl, _, _, rfl, _, _, rfl, rfl, ?_⟩
      have eW2 : (upd H1 W (.lst (cs.map V.ref))) W = some (.lst (cs.map V.ref)) := upd_same
      have eD2 : (upd H1 W (.lst (cs.map V.ref))) D = some (.lst (bs.map V.ref)) := by rw [upd_ne hDW]; exact eD
      have gS : Same H (upd H1 W (.lst (cs.map V.ref))) := same_fresh hW0 g
      rw [List.flatMap_cons, pths_eq] at ep
      dsimp only at ep
      have fl : fs.length + (own π sh).length ≤ 201 := by
        have z := congrArg List.length ep
        rw [List.length_append, List.length_append, List.length_append, pths_len] at z
        omega
      generalize upd H1 W (.lst (cs.map V.ref)) = H2 at *
      have rc2 := rc.keepT k2
      have epi2 := k2 _ _ epi
      refine ⟨fun σ' H' => ∃ bs', σ' = [some (.ref a), some (.ref W), some (.ref D), some (.ref p), some (.ref c), y5] ∧ Same H H' ∧ KeepT H1 H' ∧ H' W = some (.lst (cs.map V.ref)) ∧ H' D = some (.lst (bs'.map V.ref)) ∧ Al (PItem H') bs' (fs ++ own π sh), ?_, ?_⟩
      · obtain ⟨xs, cs', ex', ed, rk, h3, hnil⟩ := rc2.kids
        have kp := KeepT.put eD2 (bs.map V.ref ++ [V.ref p])
        have yes : own π sh = [π] → (∃ bs', [some (V.ref a), some (V.ref W), some (V.ref D), some (V.ref p), some (V.ref c), y5] = [some (.ref a), some (.ref W), some (.ref D), some (.ref p), some (.ref c), y5] ∧ Same H (upd H2 D (.lst (bs.map V.ref ++ [V.ref p]))) ∧ KeepT H1 (upd H2 D (.lst (bs.map V.ref ++ [V.ref p]))) ∧ (upd H2 D (.lst (bs.map V.ref ++ [V.ref p]))) W = some (.lst (cs.map V.ref)) ∧ (upd H2 D (.lst (bs.map V.ref ++ [V.ref p]))) D = some (.lst (bs'.map V.ref)) ∧ Al (PItem (upd H2 D (.lst (bs.map V.ref ++ [V.ref p])))) bs' (fs ++ own π sh)) := fun ho =>
          ⟨bs ++ [p], rfl, same_fresh hD0 gS, k2.trans kp, by rw [upd_ne hWD]; exact eW2, by rw [upd_same, List.map_append]; rfl, by rw [ho]; exact (rD.mono (PItem.keep (k2.trans kp))).snoc ((k2.trans kp) _ _ epi)⟩
        have hbl : (bs.map V.ref).length < 1000 := by rw [List.length_map, rD.len]; omega
        refine ⟨_, rfl, _, .inr (.inl ⟨xs, SqT.of ex', rfl⟩), ?_⟩
        cases rc2 with
        | nil h =>
          rw [ex'] at h
          cases h
          exact iteF' ⟨bs, rfl, gS, k2, eW2, eD2, by rw [show own π Sh.nil = [] from rfl, List.append_nil]; exact rD.mono (PItem.keep k2)⟩
        | word h r' =>
          rw [ex'] at h
          cases h
          exact iteT' ⟨_, rfl, .inl ⟨rfl, _, SqL.of eD2⟩, _, rfl, D, _, _, rfl, rfl, eD2, small' hbl, yes rfl⟩
        | tree h r1 r2 =>
          rw [ex'] at h
          cases h
          exact iteT' ⟨_, rfl, .inl ⟨rfl, _, SqL.of eD2⟩, _, rfl, D, _, _, rfl, rfl, eD2, small' hbl, yes rfl⟩
      · rintro σ' H3 ⟨bs', rfl, g3', k3, eW3, eD3, rD3⟩
        have rc3 := rc.keepT k3
        have epi3 := k3 _ _ epi
        obtain ⟨xs, cs', ex3, ed, rk, h3, hnil⟩ := rc3.kids
        have hkl : cs'.length = (kids sh).length := rk.len
        have hk2 : (kids sh).length ≤ 2 := by cases sh <;> simp [kids]
        have hπ0 := hd (π, sh) (by simp)
        have hπ : π.length ≤ 900 := by
          dsimp only at hπ0
          omega
        refine ⟨_, rfl, 1, rfl, tail_sl ex3 fun p1 H4 g4' e4 => ?_⟩
        rw [ed] at e4
        refine ⟨p1, _, rfl, .inr (SqT.of e4), _, rfl, by decide, by decide, by rw [List.length_map]; omega, by rw [List.length_map]; omega, ?_⟩
        rw [List.length_map]
        have hn : ((cs'.length : Int) - 0).toNat = (kids sh).length := by omega
        rw [hn]
        refine for_rangeC (n := (kids sh).length) (fun u σ H5 => ∃ (y5 : Option V) (ds : List Addr), σ = [some (.ref a), some (.ref W), some (.ref D), some (.ref p), some (.ref c), y5] ∧ Same H H5 ∧ KeepT H3 H5 ∧ H5 W = some (.lst ((cs ++ ds).map V.ref)) ∧ H5 D = some (.lst (bs'.map V.ref)) ∧
          Al (WItem H5) ds ((kidsP π sh).reverse.take u)) ⟨y5, [], rfl, g3'.trans g4', KeepT.of g4', by rw [List.append_nil]; exact g4' _ _ eW3, g4' _ _ eD3, True.intro⟩ (fun u σ H5 hu p => ?_) fun σ H5 p => ?_
        · obtain ⟨y5, ds, rfl, g5, k5, eW5, eD5, rd⟩ := p
          obtain ⟨j, hj, hjn⟩ : ∃ j : Nat, (0 + (((kids sh).length : Nat) : Int) - 1) + ((u : Nat) : Int) * (-1) = (j : Int) ∧ j = (kids sh).length - 1 - u := ⟨(kids sh).length - 1 - u, by omega, rfl⟩
          rw [hj]
          have hjk : j < (kids sh).length := by omega
          obtain ⟨sj, hsj⟩ : ∃ sj, (kids sh)[j]? = some sj := ⟨_, List.getElem?_eq_getElem hjk⟩
          obtain ⟨cj, hcj, rcj⟩ := rk.get hsj
          have hxj : xs[j + 1]? = some (V.ref cj) := by
            have z : (xs.drop 1)[j]? = some (V.ref cj) := by rw [ed, List.getElem?_map, hcj]; rfl
            rw [List.getElem?_drop, Nat.add_comm] at z
            exact z
          refine ⟨_, rfl, .inl ⟨rfl, _, SqL.of eW5⟩, _, rfl, _, rfl, (by show 1 ≤ sizeLine; exact small (by decide)), fun s1 hs1 => ?_⟩
          have gs1 := same_new (o := .tup [.int (j : Int)]) hs1
          refine cat_path (gs1 _ _ (k5 _ _ epi3)) upd_same hπ fun pp H6 g6 e6 => ?_
          have k6 := k5.trans (KeepT.of (gs1.trans g6))
          refine ⟨_, rfl, _, rfl, _, _, rfl, rfl, c, _, _, _, rfl, rfl, SqT.of (k6 _ _ ex3), at_of (j := j + 1) (by omega) hxj, (by show 2 ≤ sizeLine; exact small (by decide)), fun w1 hw1 => ?_⟩
          have gw := same_new (o := .tup [.ref pp, .ref cj]) hw1
          have g57 := (gs1.trans g6).trans gw
          have eW7 := g57 _ _ eW5
          have kput := KeepT.put eW7 ((cs ++ ds).map V.ref ++ [V.ref w1])
          have hlenW : ((cs ++ ds).map V.ref).length < 1000 := by
            have z1 := rr.len
            have z2 := rd.len
            have z3 := wsum_len r
            have z4 : wsum r ≤ wsum ((π, sh) :: r) := by unfold wsum; rw [List.map_cons, List.sum_cons]; omega
            rw [List.length_reverse] at z1
            rw [List.length_take] at z2
            rw [List.length_map, List.length_append]
            omega
          refine ⟨W, _, _, rfl, rfl, eW7, small' hlenW, _, ds ++ [w1], rfl, same_fresh hW0 (g5.trans g57), (k5.trans (KeepT.of g57)).trans kput, ?_, ?_, ?_⟩
          · rw [upd_same]
            simp
          · rw [upd_ne hDW]
            exact g57 _ _ eD5
          · have tk : (kidsP π sh).reverse.take (u + 1) = (kidsP π sh).reverse.take u ++ [(π ++ [(j : Int)], sj)] := by
              rw [List.take_add_one, List.getElem?_reverse (by rw [kidsP_len]; exact hu), kidsP_len, ← hjn, kidsP_get hsj]
              rfl
            rw [tk]
            refine (rd.mono (WItem.keep ((KeepT.of g57).trans kput))).snoc ⟨pp, cj, kput _ _ upd_same, kput _ _ (gw _ _ e6), rcj.keepT ((k5.trans (KeepT.of g57)).trans kput)⟩
        · obtain ⟨y5, ds, rfl, g5, k5, eW5, eD5, rd⟩ := p
          rw [List.take_of_length_le (by rw [List.length_reverse, kidsP_len]; exact Nat.le_refl _)] at rd
          have rd2 := rd.reverse
          rw [List.reverse_reverse] at rd2
          have hlt : wsum (kidsP π sh ++ r) < m := by rw [em, wsum_cons]; omega
          refine ⟨_, hlt, _, _, _, cs ++ ds, bs', kidsP π sh ++ r, fs ++ own π sh, rfl, g5, eW5, eD5, ?_, rD3.mono (PItem.keep k5), ?_, rfl, by omega, fun q hq => ?_⟩
          · rw [List.reverse_append]
            exact rd2.append (rr.mono (WItem.keep (k3.trans k5)))
          · rw [← ep, List.flatMap_append]
            simp
          · rcases List.mem_append.mp hq with hq | hq
            · dsimp only at hπ0
              cases sh with
              | nil => simp [kidsP] at hq
              | word l t' =>
                simp only [kidsP, List.mem_singleton] at hq
                subst hq
                simp only [Sh.count, List.length_append, List.length_singleton] at hπ0 ⊢
                omega
              | tree l t1 t2 =>
                simp only [kidsP, List.mem_cons, List.not_mem_nil, or_false] at hq
                simp only [Sh.count] at hπ0
                rcases hq with rfl | rfl <;> simp only [List.length_append, List.length_singleton] <;> omega
            · exact hd q (List.mem_cons_of_mem _ hq)
end
end K01
set_option Elab.async false
set_option linter.all false
set_option maxRecDepth 100000
set_option maxHeartbeats 2000000
namespace K01
open PySem PySem.Spec PyProof.Rows L2
/-! ### ways along a path -/
def kidAt (s : Sh) (k : Int) : Option Sh := if 0 ≤ k then (kids s)[k.toNat]? else none
def stepW (o : Option (List Sh)) (k : Int) : Option (List Sh) := o.bind fun W => W.getLast?.bind fun s => (kidAt s k).map fun u => W ++ [u]
def wayF (t : Sh) (π : List Int) : Option (List Sh) := π.foldl stepW (some [t])
theorem stepW_none : ∀ π : List Int, π.foldl stepW none = none
  | [] => rfl
  | k :: r => stepW_none r
theorem wayF_take {t : Sh} {π : List Int} {i : Nat} {k : Int} (h : π[i]? = some k) : wayF t (π.take (i + 1)) = stepW (wayF t (π.take i)) k := by
  unfold wayF
  rw [List.take_add_one, h, Option.toList_some, List.foldl_append]
  rfl
theorem wayF_stop {t : Sh} {π : List Int} {i : Nat} (h : wayF t (π.take i) = none) : wayF t π = none := by
  have e : π = π.take i ++ π.drop i := (List.take_append_drop i π).symm
  unfold wayF at h ⊢
  rw [e, List.foldl_append, h, stepW_none]
theorem wayF_len {t : Sh} : ∀ {π : List Int} {W : List Sh} {i : Nat}, wayF t (π.take i) = some W → W.length ≤ i + 1 := by
  intro π W i h
  induction i generalizing W with
  | zero =>
    obtain rfl : [t] = W := Option.some.inj h
    exact Nat.le_refl _
  | succ i ih =>
    cases z : π[i]? with
    | none =>
      rw [List.take_add_one, z, Option.toList_none, List.append_nil] at h
      exact Nat.le_succ_of_le (ih h)
    | some k =>
      rw [wayF_take z] at h
      unfold stepW at h
      cases y : wayF t (π.take i) with
      | none => rw [y] at h; cases h
      | some W' =>
        rw [y] at h
        simp only [Option.bind_some] at h
        cases x : W'.getLast? with
        | none => rw [x] at h; cases h
        | some s =>
          rw [x] at h
          simp only [Option.bind_some] at h
          cases v : kidAt s k with
          | none => rw [v] at h; cases h
          | some u =>
            rw [v] at h
            obtain rfl : W' ++ [u] = W := Option.some.inj h
            rw [List.length_append]
            exact Nat.succ_le_succ (ih y)
abbrev sWay : Stmt := top 19
abbrev sPart : Stmt := top 17
theorem scWay : FnScope ["shape", "path", "way", "step", "now"] ["shape", "path"] (defScope sWay) := ⟨rfl, rfl, rfl, by decide +kernel, rfl, by decide +kernel, by decide +kernel⟩
theorem scPart : FnScope ["shape", "path", "found"] ["shape", "path"] (defScope sPart) := ⟨rfl, rfl, rfl, by decide +kernel, rfl, by decide +kernel, by decide +kernel⟩
/-- what the top has written of an error's class -/
structure ExcT (K : PySem.W.Frag) (mg : Str → Option Value) (nm : Str) (C : Addr) : Prop where
  x : PySem.W.excIn K C [.type "ValueError", .type "Exception", .type "BaseException", .type "object"] "ValueError.__new__" = true
  g : mg nm = some (.ref C)
  k : PySem.W.keepIn K (.ref C) = true
  b : PySem.W.subIn K (.ref C) (.type "BaseException") = some true
  t : PySem.W.typeIn K (.ref C) = some (.type "type")
  e : PySem.W.exmOne K (.ref C) (.ref C) = some true
def spWay (C : Addr) : Sp := fun vs H Q E => ∃ (a p : Addr) (t : Sh) (π : List Int), vs = [.ref a, .ref p] ∧ Rep H a t ∧ H p = some (.tup (π.map V.int)) ∧ π.length ≤ 200 ∧
  (∀ W, wayF t π = some W → ∀ H' q as, Same H H' → H' q = some (.lst (as.map V.ref)) → Reps H' as W → Q (.ref q) H') ∧ (wayF t π = none → ∀ H', Same H H' → E (.ref C) none H')
theorem iteNF {A B : Prop} (h : A) : if (!false) = true then A else B := iteT h
theorem Reps.last {H : Hp} {as : List Addr} {a : Addr} {W : List Sh} (h : Reps H (as ++ [a]) W) : ∃ W' s, W = W' ++ [s] ∧ Reps H as W' ∧ Rep H a s := by
  induction as generalizing W with
  | nil =>
    cases W with
    | nil => exact h.elim
    | cons s r =>
      cases r with
      | nil => exact ⟨[], s, rfl, True.intro, h.1⟩
      | cons _ _ => exact h.2.elim
  | cons b as ih =>
    cases W with
    | nil => exact h.elim
    | cons s r =>
      obtain ⟨W', s', e, h1, h2⟩ := ih h.2
      exact ⟨s :: W', s', by rw [e]; rfl, ⟨h.1, h1⟩, h2⟩
section
variable {P : Program} {w : World} {K : PySem.W.Frag} {mg : Str → Option Value} {base : Heap}
theorem ok_way {f C : Addr} {fd : FuncData} {k : Nat} (F : Fun K "_way_to" "_way_to" sWay f fd) (T : ExcT K mg "NoSuchElement" C) (ml : mg "len" = none) : FnOk P w K mg base (L2.CX P w) (k + 1) f fd ["shape", "path"] (spWay C) := by
  refine F.okX scWay (fun vs H Q E h => ?_) (fun cdv A outer s H vs Q E hr h => ?_)
  · obtain ⟨a, p, t, π, rfl, _⟩ := h
    rfl
  obtain ⟨a, p, t, π, rfl, hR, hp, hz, q, qE⟩ := h
  refine ⟨_, pss_cons (ps_set (i := 2) scWay.nd rfl (Or.inl rfl) (pe_lst (pa_cons (pv 0) pa_nil)))
    (pss_cons (ps_for (passes_of rfl) rfl (pi_tup (pv 1)) (pg_name (i := 3) scWay.nd rfl (Or.inl rfl))
      (pss_cons (ps_set (i := 4) scWay.nd rfl (Or.inl rfl) (pe_ix ix_list (pv 2) (pe_un un_neg pe_int) (fun _ _ => rfl)))
      (pss_cons (ps_if (pt_not (pt_chain op_le op_lt pe_int (pv 3) (pe_op op_sub (pe_callB call_len_seq (by rfl) ml PySem.boot_len (pa_cons (pv 4) pa_nil)) pe_int)))
        (pss_one (ps_raise rfl (takes_of rfl rfl rfl rfl) (pmk_own PySem.F.excBase_ValueError T.x T.g T.k (raises_own T.b T.t) rfl))) pss_nil)
      (pss_one (ps_expr (pe_bm PySem.F.plainAttrs_list PySem.F.slot_list_append PySem.F.type_list_append mt_append (pv 2) (pa_cons (pe_ix ix_tup (pv 4) (pe_op op_add (pv 3) pe_int) (fun _ _ => rfl)) pa_nil)))))))
    (pss_one (ps_ret (pv 2)))), ?_⟩
  refine ⟨_, rfl, (by show 1 ≤ sizeLine; exact small (by decide)), fun D hD => ?_⟩
  have g0 : Same H (upd H D (.lst [.ref a])) := same_new hD
  refine ⟨_, rfl, p, rfl, ⟨_, SqT.of (g0 _ _ hp)⟩, ?_⟩
  refine for_tup (xs := π.map V.int) (fun i σ H1 => ∃ (y3 y4 : Option V) (as : List Addr) (W : List Sh), σ = [some (.ref a), some (.ref p), some (.ref D), y3, y4] ∧ Same H H1 ∧ wayF t (π.take i) = some W ∧ H1 D = some (.lst (as.map V.ref)) ∧ Reps H1 as W ∧ as ≠ []) ⟨none, none, [a], [t], rfl, g0, rfl, upd_same, ⟨hR.same g0, True.intro⟩, by simp⟩ (fun i σ H1 hi P1 => ?_) (fun i x σ H1 hx P1 => ?_) fun σ H1 P1 => ?_
  · obtain ⟨_, _, _, _, _, g, _⟩ := P1
    exact SqT.of (g _ _ hp)
  · obtain ⟨y3, y4, as, W, rfl, g, eW, eD, rW, hne⟩ := P1
    have hil := (List.getElem?_eq_some_iff.mp hx).1
    rw [List.length_map] at hil
    rw [List.getElem?_map] at hx
    obtain ⟨z, hz1, rfl⟩ : ∃ z, π[i]? = some z ∧ x = V.int z := by
      cases y : π[i]? with
      | none => rw [y] at hx; cases hx
      | some z => rw [y] at hx; exact ⟨z, rfl, (Option.some.inj hx).symm⟩
    rcases List.eq_nil_or_concat as with e | ⟨as', c, e⟩
    · exact absurd e hne
    rw [List.concat_eq_append] at e
    subst e
    obtain ⟨W', sh, e, rW', rc⟩ := rW.last
    subst e
    obtain ⟨xs, cs, ex, ed, rk, h3, hnil⟩ := rc.kids
    have hlast : atI ((as' ++ [c]).map V.ref) (-1) = some (.ref c) := by
      rw [List.map_append]
      exact atI_last _ _
    have wl := wayF_len eW
    have hxl : ((xs.length : Nat) : Int) - 1 = ((kids sh).length : Int) - (if xs = [] then 1 else 0) := by
      have := congrArg List.length ed
      rw [List.length_drop, List.length_map, rk.len] at this
      by_cases hx0 : xs = []
      · rw [if_pos hx0]
        subst hx0
        simp only [List.length_nil] at this ⊢
        omega
      · rw [if_neg hx0]
        have : 0 < xs.length := List.length_pos_iff.mpr hx0
        omega
    have next : wayF t (π.take (i + 1)) = (kidAt sh z).map fun u => (W' ++ [sh]) ++ [u] := by
      rw [wayF_take hz1, eW]
      unfold stepW
      simp
    have lose : kidAt sh z = none → wayF t π = none := fun h => wayF_stop (i := i + 1) (by rw [next, h]; rfl)
    refine ⟨_, rfl, 1, rfl, D, _, _, _, rfl, rfl, SqL.of eD, hlast, ?_⟩
    refine ⟨_, rfl, _, _, rfl, rfl, decide ((0 : Int) ≤ z), rfl, ?_⟩
    have xl : xs = [] ∨ xs.length = (kids sh).length + 1 := by
      by_cases hx0 : xs = []
      · exact .inl hx0
      · rw [if_neg hx0] at hxl
        exact .inr (by omega)
    have kl0 : xs = [] → kids sh = [] := fun h => by
      have := congrArg List.length ed
      rw [h, List.length_drop, List.length_map, rk.len] at this
      exact List.length_eq_zero_iff.mp (by simpa using this.symm)
    refine ite2 (fun c1 => ?_) (fun c1 => ?_)
    · have c1' : (0 : Int) ≤ z := of_decide_eq_true c1
      refine ⟨_, rfl, c, xs, rfl, .inr (SqT.of ex), _, _, rfl, rfl, _, _, rfl, rfl, ?_⟩
      by_cases c2 : z < ((xs.length : Nat) : Int) - 1
      · refine ⟨true, congrArg V.bl (decide_eq_true c2), iteNT ?_⟩
        have hk : z.toNat < (kids sh).length := by
          rcases xl with h | h
          · rw [h] at c2
            simp at c2
            omega
          · omega
        obtain ⟨u, hu⟩ : ∃ u, (kids sh)[z.toNat]? = some u := ⟨_, List.getElem?_eq_getElem hk⟩
        obtain ⟨cu, hcu, rcu⟩ := rk.get hu
        have hxj : xs[z.toNat + 1]? = some (V.ref cu) := by
          have y : (xs.drop 1)[z.toNat]? = some (V.ref cu) := by rw [ed, List.getElem?_map, hcu]; rfl
          rw [List.getElem?_drop, Nat.add_comm] at y
          exact y
        refine ⟨_, rfl, .inl ⟨rfl, _, SqL.of eD⟩, _, rfl, _, rfl, _, _, rfl, rfl, c, _, _, _, rfl, rfl, SqT.of ex, at_of (j := z.toNat + 1) (by omega) hxj, D, _, _, rfl, rfl, eD, ?_, ?_⟩
        · rw [List.length_map, rW.len]
          exact small' (by omega)
        · have kput := KeepT.put eD ((as' ++ [c]).map V.ref ++ [V.ref cu])
          refine ⟨_, _, as' ++ [c] ++ [cu], W' ++ [sh] ++ [u], rfl, same_fresh hD g, ?_, ?_, ?_, by simp⟩
          · rw [next]
            unfold kidAt
            rw [if_pos c1', hu]
            rfl
          · rw [upd_same, List.map_append (l₁ := as' ++ [c])]
            rfl
          · exact (rW.mono (fun r => r.keepT kput)).snoc (rcu.keepT kput)
      · refine ⟨false, congrArg V.bl (decide_eq_false c2), iteNF ?_⟩
        refine qE (lose ?_) _ g
        unfold kidAt
        rw [if_pos c1']
        refine List.getElem?_eq_none ?_
        rcases xl with h | h
        · rw [kl0 h]
          simp
        · omega
    · have c1' : ¬ (0 : Int) ≤ z := of_decide_eq_false (Bool.eq_false_iff.mpr c1)
      refine ⟨false, rfl, iteNF ?_⟩
      refine qE (lose ?_) _ g
      unfold kidAt
      rw [if_neg c1']
  · obtain ⟨y3, y4, as, W, rfl, g, eW, eD, rW, hne⟩ := P1
    rw [List.length_map, List.take_length] at eW
    exact ⟨_, rfl, q W eW _ D as g eD rW⟩
def spPart (C : Addr) : Sp := fun vs H Q E => ∃ (a p : Addr) (t : Sh) (π : List Int), vs = [.ref a, .ref p] ∧ Rep H a t ∧ H p = some (.tup (π.map V.int)) ∧ π.length ≤ 200 ∧
  (∀ W s, wayF t π = some (W ++ [s]) → s ≠ .nil → ∀ H' c, Same H H' → Rep H' c s → Q (.ref c) H') ∧ ((wayF t π = none ∨ ∃ W, wayF t π = some (W ++ [.nil])) → ∀ H', Same H H' → E (.ref C) none H')
theorem fold_ne : ∀ (π : List Int) (W0 W : List Sh), W0 ≠ [] → π.foldl stepW (some W0) = some W → W ≠ []
  | [], W0, W, h, e => by
    obtain rfl : W0 = W := Option.some.inj e
    exact h
  | k :: r, W0, W, h, e => by
    rw [List.foldl_cons] at e
    cases y : stepW (some W0) k with
    | none => rw [y, stepW_none] at e; cases e
    | some W1 =>
      rw [y] at e
      refine fold_ne r W1 W (fun z => ?_) e
      subst z
      unfold stepW at y
      simp only [Option.bind_some] at y
      cases x : W0.getLast? with
      | none => rw [x] at y; cases y
      | some s =>
        rw [x] at y
        simp only [Option.bind_some] at y
        cases v : kidAt s k with
        | none => rw [v] at y; cases y
        | some u => rw [v] at y; simp at y
theorem wayF_last {t : Sh} {π : List Int} {W : List Sh} (h : wayF t π = some W) : ∃ W' s, W = W' ++ [s] := by
  have ne := fold_ne π [t] W (by simp) h
  rcases List.eq_nil_or_concat W with e | ⟨W', s, e⟩
  · exact absurd e ne
  · exact ⟨W', s, by rw [e, List.concat_eq_append]⟩
theorem ok_part {f g C : Addr} {fd gd : FuncData} {k : Nat} (F : Fun K "part" "part" sPart f fd) (T : ExcT K mg "NoSuchElement" C) (G : FnOk P w K mg base (L2.CX P w) k g gd ["shape", "path"] (spWay C)) (bG : Binds K gd ["shape", "path"] []) (kG : PySem.W.keepIn K (.ref g) = true) (mG : mg "_way_to" = some (.ref g)) : FnOk P w K mg base (L2.CX P w) (k + 1) f fd ["shape", "path"] (spPart C) := by
  refine F.okX scPart (fun vs H Q E h => ?_) (fun cdv A outer s H vs Q E hr h => ?_)
  · obtain ⟨a, p, t, π, rfl, _⟩ := h
    rfl
  obtain ⟨a, p, t, π, rfl, hR, hp, hz, q, qE⟩ := h
  refine ⟨_, pss_cons (ps_set (i := 2) scPart.nd rfl (Or.inl rfl) (pe_ix ix_list (pe_call G hr (by rfl) mG kG bG .nil (passes_call (takes_of rfl rfl rfl rfl) fun _ _ _ _ h => h) (pa_cons (pv 0) (pa_cons (pv 1) pa_nil))) (pe_un un_neg pe_int) (fun _ _ => rfl)))
    (pss_cons (ps_if (pt_not (pt_truth (pv 2) (fun _ => rfl))) (pss_one (ps_raise rfl (takes_of rfl rfl rfl rfl) (pmk_own PySem.F.excBase_ValueError T.x T.g T.k (raises_own T.b T.t) rfl))) pss_nil)
    (pss_one (ps_ret (pv 2)))), ?_⟩
  refine ⟨_, rfl, _, rfl, a, p, t, π, rfl, hR, hp, hz, fun W eW H1 l as g1 el rl => ?_, fun h H1 g1 => qE (.inl h) H1 g1⟩
  obtain ⟨W', s', e⟩ := wayF_last eW
  subst e
  rcases List.eq_nil_or_concat as with e | ⟨as', c, e⟩
  · subst e
    have := rl.len
    simp at this
  rw [List.concat_eq_append] at e
  subst e
  obtain ⟨W2, s2, e, rW', rc⟩ := rl.last
  obtain ⟨rfl, h2⟩ := List.append_inj' e rfl
  obtain rfl : s' = s2 := by simpa using h2
  have hlast : atI ((as' ++ [c]).map V.ref) (-1) = some (.ref c) := by
    rw [List.map_append]
    exact atI_last _ _
  refine ⟨1, rfl, l, _, _, _, rfl, rfl, SqL.of el, hlast, ?_⟩
  have rc2 := rc
  cases rc2 with
  | nil h =>
    refine ⟨_, rfl, false, .inr (.inl ⟨[], SqT.of h, rfl⟩), iteNF ?_⟩
    exact qE (.inr ⟨_, eW⟩) _ g1
  | word h r' =>
    refine ⟨_, rfl, true, .inr (.inl ⟨_, SqT.of h, rfl⟩), iteNT ?_⟩
    exact ⟨_, rfl, q _ _ eW (by simp) _ _ g1 rc⟩
  | tree h r1 r2 =>
    refine ⟨_, rfl, true, .inr (.inl ⟨_, SqT.of h, rfl⟩), iteNT ?_⟩
    exact ⟨_, rfl, q _ _ eW (by simp) _ _ g1 rc⟩
end
end K01
set_option Elab.async false
set_option linter.all false
set_option maxRecDepth 100000
set_option maxHeartbeats 2000000
namespace K01
open PySem PySem.Spec PyProof.Rows L2
/-! ### values that may be shapes -/
inductive Vl where
  | str (x : Str)
  | emp
  | one (l : Str) (x : Vl)
  | two (l : Str) (x y : Vl)
  | oth
deriving Inhabited
def isSh (two : Bool) (ls : List Str) : Vl → Bool
  | .str _ => false
  | .emp => true
  | .one l x => !two && decide (l ∈ ls) && isSh two ls x
  | .two l x y => two && decide (l ∈ ls) && isSh two ls x && isSh two ls y
  | .oth => false
def Vl.size : Vl → Nat
  | .str _ => 1
  | .emp => 1
  | .one _ x => x.size + 1
  | .two _ x y => x.size + y.size + 1
  | .oth => 1
inductive RepV (H : Hp) : V → Vl → Prop where
  | str (x : Str) : RepV H (.str x) (.str x)
  | emp {a : Addr} (h : H a = some (.tup [])) : RepV H (.ref a) .emp
  | one {a : Addr} {l : Str} {v : V} {x : Vl} (h : H a = some (.tup [.str l, v])) (r : RepV H v x) : RepV H (.ref a) (.one l x)
  | two {a : Addr} {l : Str} {v u : V} {x y : Vl} (h : H a = some (.tup [.str l, v, u])) (r : RepV H v x) (q : RepV H u y) : RepV H (.ref a) (.two l x y)
  | oth {a : Addr} {xs : List V} (h : H a = some (.tup xs)) (h0 : xs ≠ []) (h2 : xs.length ≠ 2) (h3 : xs.length ≠ 3) (h9 : xs.length ≤ 9) : RepV H (.ref a) .oth
theorem RepV.keepT {H H' : Hp} (g : KeepT H H') {v : V} {t : Vl} (r : RepV H v t) : RepV H' v t := by
  induction r with
  | str x => exact .str x
  | emp h => exact .emp (g _ _ h)
  | one h _ ih => exact .one (g _ _ h) ih
  | two h _ _ i1 i2 => exact .two (g _ _ h) i1 i2
  | oth h h0 h2 h3 h9 => exact .oth (g _ _ h) h0 h2 h3 h9
def toV : Sh → Vl
  | .nil => .emp
  | .word l t => .one l (toV t)
  | .tree l a b => .two l (toV a) (toV b)
theorem Rep.toV {H : Hp} {a : Addr} {t : Sh} (r : Rep H a t) : RepV H (.ref a) (toV t) := by
  induction r with
  | nil h => exact .emp h
  | word h _ ih => exact .one h ih
  | tree h _ _ i1 i2 => exact .two h i1 i2
/-- a row of values -/
def RepVs (H : Hp) : List V → List Vl → Prop
  | [], [] => True
  | v :: vs, x :: xs => RepV H v x ∧ RepVs H vs xs
  | _, _ => False
theorem RepVs.keepT {H H' : Hp} (g : KeepT H H') : ∀ {vs : List V} {xs : List Vl}, RepVs H vs xs → RepVs H' vs xs
  | [], [], _ => True.intro
  | _ :: _, _ :: _, ⟨h, t⟩ => ⟨h.keepT g, t.keepT g⟩
theorem RepVs.append {H : Hp} : ∀ {vs us : List V} {xs ys : List Vl}, RepVs H vs xs → RepVs H us ys → RepVs H (vs ++ us) (xs ++ ys)
  | [], _, [], _, _, h => h
  | _ :: _, _, _ :: _, _, ⟨h, t⟩, q => ⟨h, t.append q⟩
theorem RepVs.last {H : Hp} {vs : List V} {v : V} {xs : List Vl} (h : RepVs H (vs ++ [v]) xs) : ∃ xs' x, xs = xs' ++ [x] ∧ RepVs H vs xs' ∧ RepV H v x := by
  induction vs generalizing xs with
  | nil =>
    cases xs with
    | nil => exact h.elim
    | cons s r =>
      cases r with
      | nil => exact ⟨[], s, rfl, True.intro, h.1⟩
      | cons _ _ => exact h.2.elim
  | cons b as ih =>
    cases xs with
    | nil => exact h.elim
    | cons s r =>
      obtain ⟨W', s', e, h1, h2⟩ := ih h.2
      exact ⟨s :: W', s', by rw [e]; rfl, ⟨h.1, h1⟩, h2⟩
theorem RepVs.len {H : Hp} : ∀ {vs : List V} {xs : List Vl}, RepVs H vs xs → vs.length = xs.length
  | [], [], _ => rfl
  | _ :: _, _ :: _, ⟨_, t⟩ => congrArg (· + 1) t.len
def vsum (xs : List Vl) : Nat := (xs.map Vl.size).sum
theorem vsum_len (xs : List Vl) : xs.length ≤ vsum xs := by
  induction xs with
  | nil => exact Nat.le_refl _
  | cons x r ih =>
    unfold vsum at ih ⊢
    rw [List.map_cons, List.sum_cons, List.length_cons]
    have : 1 ≤ x.size := by cases x <;> simp only [Vl.size] <;> omega
    omega
theorem vsum_snoc (xs : List Vl) (x : Vl) : vsum (xs ++ [x]) = vsum xs + x.size := by
  unfold vsum
  rw [List.map_append, List.sum_append]
  simp
abbrev sIsShape : Stmt := top 11
theorem scIsShape : FnScope ["kind", "value", "ways", "labels", "waiting", "now"] ["kind", "value"] (defScope sIsShape) := ⟨rfl, rfl, rfl, by decide +kernel, rfl, by decide +kernel, by decide +kernel⟩
def spIsShape : Sp := fun vs H Q _ => ∃ (k : Addr) (v : V) (two : Bool) (ls : List Str) (x : Vl), vs = [.ref k, v] ∧ KindAt H k two ls ∧ RepV H v x ∧ x.size ≤ 400 ∧ ∀ H', Same H H' → Q (.bl (isSh two ls x)) H'
theorem inV_str (l : Str) (ls : List Str) : inV (.str l) (ls.map V.str) = decide (l ∈ ls) := by
  unfold inV
  rw [List.any_map]
  induction ls with
  | nil => rfl
  | cons x r ih =>
    rw [List.any_cons, ih]
    by_cases h : l = x
    · subst h
      simp [eqV]
    · have h' : ¬ x = l := fun z => h z.symm
      simp [eqV, h, h']
theorem flat_strs (ls : List Str) : (ls.map V.str).all flatV = true := by
  rw [List.all_map]
  exact List.all_eq_true.mpr fun x _ => rfl
section
variable {P : Program} {w : World} {K : PySem.W.Frag} {mg : Str → Option Value} {base : Heap}
theorem ok_isShape {f c : Addr} {fd cd : FuncData} {k : Nat} (F : Fun K "is_shape" "is_shape" sIsShape f fd) (GC : FnOk P w K mg base CX0 k c cd ["kind"] spCheck) (bC : Binds K cd ["kind"] []) (kC : PySem.W.keepIn K (.ref c) = true) (mC : mg "check_kind" = some (.ref c)) (ml : mg "len" = none) (mi : mg "isinstance" = none) (mt : mg "tuple" = none) :
    FnOk P w K mg base CX0 (k + 1) f fd ["kind", "value"] spIsShape := by
  refine F.ok scIsShape (fun vs H Q E h => ?_) (fun cdv A outer s H vs Q E hr h => ?_)
  · obtain ⟨a, v, two, ls, x, rfl, _⟩ := h
    rfl
  obtain ⟨a, v, two, ls, x, rfl, hK, hR, hz, q⟩ := h
  refine ⟨_, pss_cons (ps_expr (pe_call GC hr (by rfl) mC kC bC .nil pass0 (pa_cons (pv 0) pa_nil)))
    (pss_cons (ps_asg (pv 0) (pg_tup (by rfl) (pgs_cons (pg_name (i := 2) scIsShape.nd rfl (.inl rfl)) (pgs_cons (pg_name (i := 3) scIsShape.nd rfl (.inl rfl)) pgs_nil))))
    (pss_cons (ps_set (i := 4) scIsShape.nd rfl (Or.inl rfl) (pe_lst (pa_cons (pv 1) pa_nil)))
    (pss_cons (ps_while PassesOwn.never (pt_truth (pv 4) (fun _ => rfl))
      (pss_cons (ps_set (i := 5) scIsShape.nd rfl (Or.inl rfl) (pe_bm0 PySem.F.plainAttrs_list PySem.F.slot_list_pop PySem.F.type_list_pop mt_pop (pv 4)))
      (pss_cons (ps_if (pt_not (pt_val (pe_isi (pv 5) mi mt rfl))) (pss_one (ps_ret pe_bl)) pss_nil)
      (pss_cons (ps_if (PW.pt (pw_and (pt_truth (pv 5) (fun _ => rfl)) (pw_and1 (PW.pt (pw_or (pt_cmpR op_ne (pe_callB call_len_seq (by rfl) ml PySem.boot_len (pa_cons (pv 5) pa_nil)) (pe_op op_add (pv 2) pe_int) (nomark _)) (pw_or1 (pt_cmpR op_notIn_seq (pe_ix ix_tup (pv 5) pe_int (fun _ _ => rfl)) (pv 3) (by with_unfolding_all rfl))))))))
        (pss_one (ps_ret pe_bl)) pss_nil)
      (pss_one (ps_expr (pe_bm PySem.F.plainAttrs_list PySem.F.slot_list_extend PySem.F.type_list_extend mt_extendT (pv 4) (pa_cons (pe_slice sl_tupA (pv 5) (po_some pe_int) po_none) pa_nil))))))))
    (pss_one (ps_ret pe_bl))))), ?_⟩
  refine ⟨_, rfl, a, two, ls, rfl, hK, fun H1 g1 => ?_⟩
  have hK1 := hK.same g1
  obtain ⟨lab, ek, el, hls⟩ := hK
  have hR1 := hR.keepT (KeepT.of g1)
  refine ⟨_, rfl, a, _, rfl, SqT.of (g1 _ _ ek), rfl, _, _, rfl, _, _, rfl, rfl, _, rfl, (by show 1 ≤ sizeLine; exact small (by decide)), fun W hW => ?_⟩
  have gW := same_new (o := .lst [v]) hW
  have g0 := g1.trans gW
  have hW0 : H W = none := g1.free hW
  refine gn (nxs (while_n (fun m σ H2 => ∃ (y5 : Option V) (vs : List V) (xs : List Vl), σ = [some (.ref a), some v, some (.int (if two then 2 else 1)), some (.ref lab), some (.ref W), y5] ∧ Same H H2 ∧ H2 W = some (.lst vs) ∧ RepVs H2 vs xs ∧ isSh two ls x = xs.all (isSh two ls) ∧ m = vsum xs ∧ m ≤ 400) x.size
    ⟨none, [v], [x], rfl, g0, upd_same, ⟨hR1.keepT (KeepT.of gW), True.intro⟩, by simp, by simp [vsum], hz⟩ (fun m σ H2 p => ?_)))
  obtain ⟨y5, vs, xs, rfl, g, eW, rW, ea, em, hm⟩ := p
  refine ⟨_, rfl, _, .inl ⟨_, SqL.of eW, rfl⟩, ?_⟩
  rcases List.eq_nil_or_concat vs with e | ⟨vs', u, e⟩
  · subst e
    refine iteF' ?_
    have hx : xs = [] := by
      cases xs with
      | nil => rfl
      | cons _ _ => exact rW.elim
    subst hx
    have ea' : isSh two ls x = true := ea
    have := q _ g
    rw [ea'] at this
    exact this
  · rw [List.concat_eq_append] at e
    subst e
    obtain ⟨xs', y, e, rW', ry⟩ := rW.last
    subst e
    rw [vsum_snoc] at em
    rw [List.all_append] at ea
    have hall : ∀ b, isSh two ls y = b → isSh two ls x = (xs'.all (isSh two ls) && b) := fun b hb => by rw [ea, ← hb]; simp
    have hne : (!(vs' ++ [u]).isEmpty) = true := by simp
    rw [hne]
    refine iteT' ⟨fun σ' H' => ∃ m', m' < m ∧ ∃ (y5 : Option V) (vs : List V) (xs : List Vl), σ' = [some (.ref a), some v, some (.int (if two then 2 else 1)), some (.ref lab), some (.ref W), y5] ∧ Same H H' ∧ H' W = some (.lst vs) ∧ RepVs H' vs xs ∧ isSh two ls x = xs.all (isSh two ls) ∧ m' = vsum xs ∧ m' ≤ 400, fun σ' H' h => h, ?_⟩
    have k2 : KeepT H2 (upd H2 W (.lst vs')) := KeepT.put eW _
    have eW2 : (upd H2 W (.lst vs')) W = some (.lst vs') := upd_same
    have g2 : Same H (upd H2 W (.lst vs')) := same_fresh hW0 g
    refine ⟨_, rfl, .inl ⟨rfl, _, SqL.of eW⟩, W, _, u, rfl, rfl, eW, by simp, ?_⟩
    rw [List.dropLast_concat]
    have rW2 := rW'.keepT k2
    have ry2 := ry.keepT k2
    generalize upd H2 W (.lst vs') = H3 at *
    have bad : isSh two ls y = false → Q (.bl false) H3 := fun h => by
      have := q _ g2
      rwa [hall false h, Bool.and_false] at this
    have lv := vsum_len xs'
    have lw := rW2.len
    cases ry2 with
    | str z =>
      refine ⟨_, rfl, isi (ty_str z) (by decide +kernel : kitB "str" "tuple" = some false) ⟨_, rfl, iteNF ?_⟩⟩
      exact bad rfl
    | @emp c h =>
      refine ⟨_, rfl, isi (ty_tup (SqT.of h)) (by decide +kernel : kitB "tuple" "tuple" = some true) ⟨_, rfl, iteNT ?_⟩⟩
      refine ⟨_, rfl, false, .inr (.inl ⟨[], SqT.of h, rfl⟩), iteF' (iteF' ?_)⟩
      refine ⟨_, rfl, .inl ⟨rfl, _, SqL.of eW2⟩, _, rfl, 1, rfl, tail_sl h fun p1 H4 g4 e4 => ?_⟩
      refine ⟨W, p1, _, _, rfl, rfl, g4 _ _ eW2, SqT.of e4, (by show vs'.length + 0 ≤ sizeLine; exact small (by omega)), vsum xs', by simp only [Vl.size] at em; omega, _, vs' ++ [], xs', rfl, same_fresh hW0 (g2.trans g4), upd_same, ?_, ?_, rfl, by omega⟩
      · rw [List.append_nil]
        exact rW2.keepT ((KeepT.of g4).trans (KeepT.put (g4 _ _ eW2) _))
      · rw [hall true rfl, Bool.and_true]
    | @oth c ws h h0 h2 h3 h9 =>
      refine ⟨_, rfl, isi (ty_tup (SqT.of h)) (by decide +kernel : kitB "tuple" "tuple" = some true) ⟨_, rfl, iteNT ?_⟩⟩
      have ht : (!ws.isEmpty) = true := by
        cases ws with
        | nil => exact absurd rfl h0
        | cons _ _ => rfl
      refine ⟨_, rfl, true, .inr (.inl ⟨ws, SqT.of h, ht.symm⟩), iteT' ?_⟩
      refine ⟨_, rfl, c, _, rfl, .inr (SqT.of h), _, rfl, _, _, rfl, rfl, rfl, _, rfl, ?_⟩
      refine ite2 (fun _ => iteT' (bad rfl)) (fun c9 => ?_)
      refine absurd ?_ c9
      cases two
      · exact (Bool.not_eq_true' _).mpr (decide_eq_false fun z => by injection z with z; omega)
      · exact (Bool.not_eq_true' _).mpr (decide_eq_false fun z => by injection z with z; omega)
    | @one c l v1 x1 h r1 =>
      refine ⟨_, rfl, isi (ty_tup (SqT.of h)) (by decide +kernel : kitB "tuple" "tuple" = some true) ⟨_, rfl, iteNT ?_⟩⟩
      refine ⟨_, rfl, true, .inr (.inl ⟨_, SqT.of h, rfl⟩), iteT' ?_⟩
      refine ⟨_, rfl, c, _, rfl, .inr (SqT.of h), _, rfl, _, _, rfl, rfl, rfl, _, rfl, ?_⟩
      cases two with
      | true =>
        refine ite2 (fun _ => iteT' (bad (by simp [isSh]))) (fun c9 => ?_)
        exact absurd ((Bool.not_eq_true' _).mpr (decide_eq_false fun z => by injection z with z; have z' : ((2 : Nat) : Int) = 2 + 1 := z; omega)) c9
      | false =>
        refine ite2 (fun c9 => absurd c9 ?_) (fun _ => ?_)
        · rw [decide_eq_true (show V.int (([V.str l, v1].length : Nat) : Int) = V.int ((if false = true then 2 else 1) + 1) from rfl)]
          decide
        refine ⟨_, rfl, c, _, 0, _, rfl, rfl, SqT.of h, rfl, _, rfl, lab, _, rfl, .inr (SqT.of (g2 _ _ el)), rfl, flat_strs ls, !decide (l ∈ ls), by show V.bl (!inV _ _) = _; rw [inV_str], ?_⟩
        by_cases hl : l ∈ ls
        · rw [decide_eq_true hl]
          refine iteF' ?_
          refine ⟨_, rfl, .inl ⟨rfl, _, SqL.of eW2⟩, _, rfl, 1, rfl, tail_sl h fun p1 H4 g4 e4 => ?_⟩
          simp only [Vl.size] at em
          refine ⟨W, p1, _, _, rfl, rfl, g4 _ _ eW2, SqT.of e4, (by show vs'.length + 1 ≤ sizeLine; exact small (by omega)), vsum (xs' ++ [x1]), by rw [vsum_snoc]; omega, _, vs' ++ [v1], xs' ++ [x1], rfl, same_fresh hW0 (g2.trans g4), upd_same, ?_, ?_, rfl, by rw [vsum_snoc]; omega⟩
          · have kk := (KeepT.of g4).trans (KeepT.put (g4 _ _ eW2) (vs' ++ [v1]))
            exact (rW2.keepT kk).append ⟨r1.keepT kk, True.intro⟩
          · rw [hall (isSh false ls x1) (by simp [isSh, hl]), List.all_append]
            simp
        · rw [decide_eq_false hl]
          exact iteT' (bad (by simp [isSh, hl]))
    | @two c l v1 v2 x1 x2 h r1 r2 =>
      refine ⟨_, rfl, isi (ty_tup (SqT.of h)) (by decide +kernel : kitB "tuple" "tuple" = some true) ⟨_, rfl, iteNT ?_⟩⟩
      refine ⟨_, rfl, true, .inr (.inl ⟨_, SqT.of h, rfl⟩), iteT' ?_⟩
      refine ⟨_, rfl, c, _, rfl, .inr (SqT.of h), _, rfl, _, _, rfl, rfl, rfl, _, rfl, ?_⟩
      cases two with
      | false =>
        refine ite2 (fun _ => iteT' (bad (by simp [isSh]))) (fun c9 => ?_)
        exact absurd ((Bool.not_eq_true' _).mpr (decide_eq_false fun z => by injection z with z; have z' : ((3 : Nat) : Int) = 1 + 1 := z; omega)) c9
      | true =>
        refine ite2 (fun c9 => absurd c9 ?_) (fun _ => ?_)
        · rw [decide_eq_true (show V.int (([V.str l, v1, v2].length : Nat) : Int) = V.int ((if true = true then 2 else 1) + 1) from rfl)]
          decide
        refine ⟨_, rfl, c, _, 0, _, rfl, rfl, SqT.of h, rfl, _, rfl, lab, _, rfl, .inr (SqT.of (g2 _ _ el)), rfl, flat_strs ls, !decide (l ∈ ls), by show V.bl (!inV _ _) = _; rw [inV_str], ?_⟩
        by_cases hl : l ∈ ls
        · rw [decide_eq_true hl]
          refine iteF' ?_
          refine ⟨_, rfl, .inl ⟨rfl, _, SqL.of eW2⟩, _, rfl, 1, rfl, tail_sl h fun p1 H4 g4 e4 => ?_⟩
          simp only [Vl.size] at em
          have vs2 : vsum (xs' ++ [x1, x2]) = vsum xs' + x1.size + x2.size := by
            rw [show xs' ++ [x1, x2] = (xs' ++ [x1]) ++ [x2] by simp, vsum_snoc, vsum_snoc]
          refine ⟨W, p1, _, _, rfl, rfl, g4 _ _ eW2, SqT.of e4, (by show vs'.length + 2 ≤ sizeLine; exact small (by omega)), vsum (xs' ++ [x1, x2]), by rw [vs2]; omega, _, vs' ++ [v1, v2], xs' ++ [x1, x2], rfl, same_fresh hW0 (g2.trans g4), upd_same, ?_, ?_, rfl, by rw [vs2]; omega⟩
          · have kk := (KeepT.of g4).trans (KeepT.put (g4 _ _ eW2) (vs' ++ [v1, v2]))
            exact (rW2.keepT kk).append ⟨r1.keepT kk, r2.keepT kk, True.intro⟩
          · rw [hall (isSh true ls x1 && isSh true ls x2) (by simp [isSh, hl]), List.all_append]
            simp
        · rw [decide_eq_false hl]
          exact iteT' (bad (by simp [isSh, hl]))
end
end K01
set_option Elab.async false
set_option linter.all false
set_option maxRecDepth 100000
set_option maxHeartbeats 2000000
namespace K01
open PySem PySem.Spec PyProof.Rows L2 XR
/-! ### reading from the end; the last made shape first -/
def stepR (two : Bool) (ls : List Str) (S : List Sh) (c : Nat) : List Sh :=
  if (⟨#[c]⟩ : Str) = "." then .nil :: S
  else if (⟨#[c]⟩ : Str) ∈ ls then
    (match two, S with
    | false, a :: r => .word ⟨#[c]⟩ a :: r
    | true, a :: b :: r => .tree ⟨#[c]⟩ a b :: r
    | _, S => S)
  else S
def runR (two : Bool) (ls : List Str) (z : Str) (i : Nat) : List Sh := (z.cps.toList.reverse.take i).foldl (stepR two ls) []
theorem runR_succ {two : Bool} {ls : List Str} {z : Str} {i c : Nat} (hi : i < z.length) (h : z.cps[z.length - 1 - i]? = some c) : runR two ls z (i + 1) = stepR two ls (runR two ls z i) c := by
  unfold runR
  have e : z.cps.toList.reverse[i]? = some c := by
    have hl : z.cps.toList.length = z.length := Array.length_toList
    rw [List.getElem?_reverse (by omega), hl, Array.getElem?_toList]
    exact h
  rw [List.take_add_one, e, Option.toList_some, List.foldl_append]
  rfl
def csum (S : List Sh) : Nat := (S.map Sh.count).sum
theorem stepR_csum (two : Bool) (ls : List Str) (S : List Sh) (c : Nat) : csum (stepR two ls S c) ≤ csum S + 1 := by
  unfold stepR
  by_cases h1 : (⟨#[c]⟩ : Str) = "."
  · rw [if_pos h1]
    simp [csum, Sh.count]
  · rw [if_neg h1]
    by_cases h2 : (⟨#[c]⟩ : Str) ∈ ls
    · rw [if_pos h2]
      split <;> simp [csum, Sh.count] <;> omega
    · rw [if_neg h2]
      omega
theorem stepR_len (two : Bool) (ls : List Str) (S : List Sh) (c : Nat) : (stepR two ls S c).length ≤ S.length + 1 := by
  unfold stepR
  by_cases h1 : (⟨#[c]⟩ : Str) = "."
  · rw [if_pos h1]
    simp
  · rw [if_neg h1]
    by_cases h2 : (⟨#[c]⟩ : Str) ∈ ls
    · rw [if_pos h2]
      split <;> simp <;> omega
    · rw [if_neg h2]
      omega
/-- of this kind -/
def Fits (two : Bool) (ls : List Str) : Sh → Prop
  | .nil => True
  | .word l t => two = false ∧ l ∈ ls ∧ Fits two ls t
  | .tree l a b => two = true ∧ l ∈ ls ∧ Fits two ls a ∧ Fits two ls b
theorem lt_ok : ∀ x ∈ LT, PyData.strOk x = true := by decide +kernel
theorem ls_one {ls : List Str} (h : ls ∈ LS) : ∀ l ∈ ls, One1 l := fun l hl => ⟨lt_len l (ls_letters h l hl), lt_ok l (ls_letters h l hl)⟩
theorem fits_ones {two : Bool} {ls : List Str} (h : ls ∈ LS) : ∀ {s : Sh}, Fits two ls s → Ones s
  | .nil, _ => True.intro
  | .word _ _, f => ⟨ls_one h _ f.2.1, fits_ones h f.2.2⟩
  | .tree _ _ _, f => ⟨ls_one h _ f.2.1, fits_ones h f.2.2.1, fits_ones h f.2.2.2⟩
theorem stepR_fits {two : Bool} {ls : List Str} {S : List Sh} {c : Nat} (h : ∀ s ∈ S, Fits two ls s) : ∀ s ∈ stepR two ls S c, Fits two ls s := by
  unfold stepR
  by_cases h1 : (⟨#[c]⟩ : Str) = "."
  · rw [if_pos h1]
    intro s hs
    rcases List.mem_cons.mp hs with rfl | hs
    · exact True.intro
    · exact h s hs
  · rw [if_neg h1]
    by_cases h2 : (⟨#[c]⟩ : Str) ∈ ls
    · rw [if_pos h2]
      intro s hs
      split at hs
      · rcases List.mem_cons.mp hs with rfl | hs
        · exact ⟨rfl, h2, h _ (by simp)⟩
        · exact h s (by simp [hs])
      · rcases List.mem_cons.mp hs with rfl | hs
        · exact ⟨rfl, h2, h _ (by simp), h _ (by simp)⟩
        · exact h s (by simp [hs])
      · exact h s hs
    · rw [if_neg h2]
      exact h
abbrev sRead : Stmt := top 22
def NRd : List Str := ["kind", "text", "ways", "labels", "done", "sign", "children", "_"]
theorem scRead : FnScope NRd ["kind", "text"] (defScope sRead) := ⟨rfl, rfl, rfl, by decide +kernel, rfl, by decide +kernel, by decide +kernel⟩
def spRead (C : Addr) : Sp := fun vs H Q E => ∃ (k : Addr) (z : Str) (two : Bool) (ls : List Str), vs = [.ref k, .str z] ∧ KindAt H k two ls ∧ z.length ≤ 100 ∧
  (∀ s, runR two ls z z.length = [s] → text s = z → ∀ H' a, Same H H' → Rep H' a s → Q (.ref a) H') ∧ ((∀ s, runR two ls z z.length = [s] → text s ≠ z) → ∀ H', Same H H' → E (.ref C) none H')
/-- what is pushed -/
theorem runR_push {H2 H3 : Hp} {D t : Addr} {as : List Addr} {S : List Sh} {s : Sh} {xs : List V} (eD : H3 D = some (.lst (as.map V.ref))) (k : KeepT H2 H3) (r : Reps H2 as.reverse S) (ht : H3 t = none) (rs : Rep (upd H3 t (.tup xs)) t s) :
    (upd (upd H3 t (.tup xs)) D (.lst (as.map V.ref ++ [V.ref t]))) D = some (.lst ((as ++ [t]).map V.ref)) ∧ Reps (upd (upd H3 t (.tup xs)) D (.lst (as.map V.ref ++ [V.ref t]))) (as ++ [t]).reverse (s :: S) := by
  have g := same_new (o := .tup xs) ht
  have kp := KeepT.put (g _ _ eD) (as.map V.ref ++ [V.ref t])
  refine ⟨by rw [upd_same, List.map_append]; rfl, ?_⟩
  rw [List.reverse_append]
  exact ⟨rs.keepT kp, r.mono fun q => ((q.keepT k).same g).keepT kp⟩
theorem stepR_dot {two : Bool} {ls : List Str} {S : List Sh} {c : Nat} (h : (⟨#[c]⟩ : Str) = ".") : stepR two ls S c = .nil :: S := by unfold stepR; rw [if_pos h]
theorem stepR_out {two : Bool} {ls : List Str} {S : List Sh} {c : Nat} (h : ¬ (⟨#[c]⟩ : Str) = ".") (h2 : (⟨#[c]⟩ : Str) ∉ ls) : stepR two ls S c = S := by unfold stepR; rw [if_neg h, if_neg h2]
theorem stepR_few {two : Bool} {ls : List Str} {S : List Sh} {c : Nat} (h : ¬ (⟨#[c]⟩ : Str) = ".") (h2 : S.length < (if two then 2 else 1)) : stepR two ls S c = S := by
  unfold stepR
  rw [if_neg h]
  by_cases h3 : (⟨#[c]⟩ : Str) ∈ ls
  · rw [if_pos h3]
    cases two with
    | false =>
      cases S with
      | nil => rfl
      | cons _ _ => simp at h2
    | true =>
      match S, h2 with
      | [], _ => rfl
      | [_], _ => rfl
      | _ :: _ :: _, h2 =>
        have h4 : _ + 1 + 1 < 2 := h2
        omega
  · rw [if_neg h3]
section
variable {P : Program} {w : World} {K : PySem.W.Frag} {mg : Str → Option Value} {base : Heap}
theorem ok_read {f c g C : Addr} {fd cd gd : FuncData} {k : Nat} (F : Fun K "read_shape" "read_shape" sRead f fd) (T : ExcT K mg "InvalidShape" C) (GC : FnOk P w K mg base CX0 k c cd ["kind"] spCheck) (bC : Binds K cd ["kind"] []) (kC : PySem.W.keepIn K (.ref c) = true) (mC : mg "check_kind" = some (.ref c))
    (GW : FnOk P w K mg base CX0 k g gd ["shape"] spWrite) (bW : Binds K gd ["shape"] []) (kW : PySem.W.keepIn K (.ref g) = true) (mW : mg "write_shape" = some (.ref g)) (ml : mg "len" = none) (mr : mg "reversed" = none) (mg' : mg "range" = none) : FnOk P w K mg base (L2.CX P w) (k + 1) f fd ["kind", "text"] (spRead C) := by
  refine F.okX scRead (fun vs H Q E h => ?_) (fun cdv A outer s H vs Q E hr h => ?_)
  · obtain ⟨a, z, two, ls, rfl, _⟩ := h
    rfl
  obtain ⟨a, z, two, ls, rfl, hK, hz, q, qE⟩ := h
  refine ⟨_, pss_cons (ps_expr (pe_call GC hr (by rfl) mC kC bC .nil pass0 (pa_cons (pv 0) pa_nil)))
    (pss_cons (ps_asg (pv 0) (pg_tup (by rfl) (pgs_cons (pg_name (i := 2) scRead.nd rfl (.inl rfl)) (pgs_cons (pg_name (i := 3) scRead.nd rfl (.inl rfl)) pgs_nil))))
    (pss_cons (ps_set (i := 4) scRead.nd rfl (Or.inr rfl) (pe_lst pa_nil))
    (pss_cons (ps_for (passes_of rfl) rfl (pi_revS (by rfl) mr (pv 1)) (pg_name (i := 5) scRead.nd rfl (Or.inl rfl))
      (pss_one (ps_if (pt_cmpR op_eq (pv 5) pe_str (nomark _))
        (pss_one (ps_expr (pe_bm PySem.F.plainAttrs_list PySem.F.slot_list_append PySem.F.type_list_append mt_append (pv 4) (pa_cons (pe_tup pa_nil) pa_nil))))
        (pss_one (ps_if (PW.pt (pw_and (pt_cmpR op_in_seq (pv 5) (pv 3) (by with_unfolding_all rfl)) (pw_and1 (pt_cmpR op_ge (pe_callB call_len_seq (by rfl) ml PySem.boot_len (pa_cons (pv 4) pa_nil)) (pv 2) (nomark _)))))
          (pss_cons (ps_setLc (i := 6) (own := [("_", 7)]) (g := gName 7) (tt := tYes) (te := tBM0 K "list" rPop (tVar 4)) rfl scRead.nd rfl rfl (sw_true rfl rfl rfl (by decide +kernel)) (pi_range1 (by rfl) mg' (pa_cons (pv 2) pa_nil))
              (blkOk_by (own := [("_", 7)]) (N := NRd) (sc := defScope sRead) (by decide +kernel)) (fun _ _ _ _ _ => pg_name (i := 7) scRead.nd rfl (Or.inl rfl)) (fun _ _ _ _ _ => pts_nil)
              (fun _ _ _ _ _ => pe_bm0 PySem.F.plainAttrs_list PySem.F.slot_list_pop PySem.F.type_list_pop mt_pop (pv 4)))
          (pss_one (ps_expr (pe_bm PySem.F.plainAttrs_list PySem.F.slot_list_append PySem.F.type_list_append mt_append (pv 4) (pa_cons (pe_tup (pa_cons (pv 5) (StX.pa_star (pv 6) pa_nil))) pa_nil))))) pss_nil)))))
    (pss_cons (ps_if (PW.pt (pw_or (pt_cmpR op_ne (pe_callB call_len_seq (by rfl) ml PySem.boot_len (pa_cons (pv 4) pa_nil)) pe_int (nomark _)) (pw_or1 (pt_cmpR op_ne (pe_call GW hr (by rfl) mW kW bW .nil pass0 (pa_cons (pe_ix ix_list (pv 4) pe_int (fun _ _ => rfl)) pa_nil)) (pv 1) (nomark _)))))
      (pss_one (ps_raise rfl (takes_of rfl rfl rfl rfl) (pmk_own PySem.F.excBase_ValueError T.x T.g T.k (raises_own T.b T.t) rfl))) pss_nil)
    (pss_one (ps_ret (pe_ix ix_list (pv 4) pe_int (fun _ _ => rfl)))))))), ?_⟩
  refine ⟨_, rfl, a, two, ls, rfl, hK, fun H1 g1 => ?_⟩
  obtain ⟨lab, ek, el, hls⟩ := hK
  refine ⟨_, rfl, a, _, rfl, SqT.of (g1 _ _ ek), rfl, _, _, rfl, _, _, rfl, rfl, (by show 0 ≤ sizeLine; exact Nat.zero_le _), fun D hD => ?_⟩
  have g0 := g1.trans (same_new (o := .lst []) hD)
  have hD0 : H D = none := g1.free hD
  refine ⟨_, rfl, z, rfl, small (by omega), ?_⟩
  refine for_revS (fun i σ H2 => ∃ (y5 y6 : Option V) (as : List Addr), σ = [some (.ref a), some (.str z), some (.int (if two then 2 else 1)), some (.ref lab), some (.ref D), y5, y6, none] ∧ Same H H2 ∧ H2 D = some (.lst (as.map V.ref)) ∧ Reps H2 as.reverse (runR two ls z i) ∧ csum (runR two ls z i) ≤ i ∧ (runR two ls z i).length ≤ i ∧ ∀ s ∈ runR two ls z i, Fits two ls s)
    ⟨none, none, [], rfl, g0, upd_same, True.intro, Nat.le_refl _, Nat.le_refl _, fun s hs => by simp [runR] at hs⟩ (fun i c σ H2 hi hc p => ?_) fun σ H2 p => ?_
  · obtain ⟨y5, y6, as, rfl, g, eD, rS, cS, lS, fS⟩ := p
    have nxt := runR_succ (two := two) (ls := ls) hi hc
    have cS' : csum (runR two ls z (i + 1)) ≤ i + 1 := by rw [nxt]; have := stepR_csum two ls (runR two ls z i) c; omega
    have lS' : (runR two ls z (i + 1)).length ≤ i + 1 := by rw [nxt]; have := stepR_len two ls (runR two ls z i) c; omega
    have fS' : ∀ s ∈ runR two ls z (i + 1), Fits two ls s := by rw [nxt]; exact stepR_fits fS
    have las : as.length ≤ 100 := by
      have := rS.len
      rw [List.length_reverse] at this
      omega
    refine ⟨_, rfl, rfl, decide ((⟨#[c]⟩ : Str) = "."), congrArg V.bl (decide_eq_decide.mpr ⟨fun h => by injection h, fun h => by rw [h]⟩), ?_⟩
    refine ite2 (fun c1 => ?_) (fun c1 => ?_)
    · have h1 := of_decide_eq_true c1
      refine ⟨_, rfl, .inl ⟨rfl, _, SqL.of eD⟩, (by show 0 ≤ sizeLine; exact Nat.zero_le _), fun t ht => ?_⟩
      obtain ⟨p1, p2⟩ := runR_push (s := .nil) eD (KeepT.refl _) rS ht (.nil upd_same)
      refine ⟨D, _, _, rfl, rfl, same_new ht _ _ eD, small' (by rw [List.length_map]; omega), _, _, as ++ [t], rfl, same_fresh hD0 (g.trans (same_new ht)), p1, ?_, cS', lS', fS'⟩
      rw [nxt, stepR_dot h1]
      exact p2
    · have h1 := of_decide_eq_false (Bool.eq_false_iff.mpr c1)
      refine ⟨_, rfl, _, rfl, lab, _, rfl, .inr (SqT.of (g _ _ el)), rfl, flat_strs ls, decide ((⟨#[c]⟩ : Str) ∈ ls), by show V.bl (inV _ _) = _; rw [inV_str], ?_⟩
      refine ite2 (fun c2 => ?_) (fun c2 => ?_)
      · have h2 := of_decide_eq_true c2
        refine ⟨_, rfl, D, _, rfl, .inl (SqL.of eD), _, rfl, _, _, rfl, rfl, _, rfl, ?_⟩
        refine ite2 (fun c3 => ?_) (fun c3 => ?_)
        · have h3 := of_decide_eq_true c3
          obtain ⟨wn, hwn, hw2⟩ : ∃ wn : Nat, (if two then (2 : Int) else 1) = (wn : Int) ∧ wn = (if two then 2 else 1) := by cases two <;> exact ⟨_, rfl, rfl⟩
          have hwl : wn ≤ as.length := by
            have h4 : (((as.map V.ref).length : Nat) : Int) ≥ (if two then 2 else 1) := h3
            rw [hwn, List.length_map] at h4
            omega
          have hw3 : wn ≤ 2 := by rw [hw2]; cases two <;> decide
          refine ⟨_, rfl, _, rfl, by rw [hwn]; omega, by rw [hwn]; show (wn : Int) < 2 ^ 62; omega, fun L hL => ?_⟩
          have hDL : D ≠ L := ne_of_none eD hL
          have hL0 : H L = none := g.free hL
          have htn : (if two then (2 : Int) else 1).toNat = wn := by rw [hwn]; rfl
          rw [htn]
          refine lc_range (n := wn) (fun u H3 => ∃ ds rest : List Addr, as = rest ++ ds.reverse ∧ ds.length = u ∧ H3 D = some (.lst (rest.map V.ref)) ∧ H3 L = some (.lst (ds.map V.ref)) ∧ KeepT H2 H3 ∧ Same H H3) ⟨[], as, by simp, rfl, by rw [upd_ne hDL]; exact eD, upd_same, KeepT.of (same_new hL), g.trans (same_new hL)⟩ (fun u H3 hu p => ?_) fun H3 p => ?_
          · obtain ⟨ds, rest, e1, e2, e3, e4, k3, g3⟩ := p
            have hrl : 0 < rest.length := by
              have := congrArg List.length e1
              rw [List.length_append, List.length_reverse] at this
              omega
            rcases List.eq_nil_or_concat rest with e | ⟨rest', d, e⟩
            · rw [e] at hrl
              cases hrl
            rw [List.concat_eq_append] at e
            subst e
            refine ⟨rfl, yes_turn ?_⟩
            refine ⟨_, rfl, .inl ⟨rfl, _, SqL.of e3⟩, D, _, V.ref d, rfl, rfl, e3, by simp, ?_⟩
            have kd := KeepT.put e3 ((rest' ++ [d]).map V.ref).dropLast
            refine ⟨_, (by rw [upd_ne hDL.symm]; exact e4), small' (by rw [List.length_map]; omega), ds ++ [d], rest', ?_, by rw [List.length_append, e2]; rfl, ?_, ?_, ?_, same_fresh hL0 (same_fresh hD0 g3)⟩
            · rw [e1, List.reverse_append]
              simp
            · rw [upd_ne hDL, upd_same]
              simp
            · rw [upd_same, List.map_append]
              rfl
            · exact (k3.trans kd).trans (KeepT.put (by rw [upd_ne hDL.symm]; exact e4) _)
          · obtain ⟨ds, rest, e1, e2, e3, e4, k3, g3⟩ := p
            have hds : (as.reverse : List Addr) = ds ++ rest.reverse := by rw [e1, List.reverse_append, List.reverse_reverse]
            rw [hds] at rS
            refine ⟨_, rfl, .inl ⟨rfl, _, SqL.of e3⟩, _, rfl, _, rfl, L, _, rfl, .inr (SqL.of e4), (by show (ds.map V.ref ++ []).length + 1 ≤ sizeLine; rw [List.append_nil, List.length_map]; exact small (by omega)), fun t ht => ?_⟩
            have hrest : (rest.map V.ref).length < 1000 := by
              have := congrArg List.length e1
              rw [List.length_append] at this
              rw [List.length_map]
              omega
            cases two with
            | false =>
              match ds, e2, rS with
              | [d], _, rS =>
                cases hS : runR false ls z i with
                | nil => rw [hS] at rS; exact rS.elim
                | cons x r =>
                  rw [hS] at rS nxt
                  have e5 : stepR false ls (x :: r) c = .word ⟨#[c]⟩ x :: r := by unfold stepR; rw [if_neg h1, if_pos h2]
                  obtain ⟨p1, p2⟩ := runR_push (xs := [.str ⟨#[c]⟩, .ref d]) (s := .word ⟨#[c]⟩ x) e3 k3 rS.2 ht (.word upd_same ((rS.1.keepT k3).same (same_new ht)))
                  refine ⟨D, _, _, rfl, rfl, same_new ht _ _ e3, small' hrest, _, _, rest ++ [t], rfl, same_fresh hD0 (g3.trans (same_new ht)), p1, ?_, cS', lS', fS'⟩
                  rw [nxt, e5]
                  exact p2
              | [], h, _ => rw [← h] at hw2; cases hw2
              | _ :: _ :: _, h, _ => rw [← h] at hw2; simp at hw2
            | true =>
              match ds, e2, rS with
              | [d, d'], _, rS =>
                cases hS : runR true ls z i with
                | nil => rw [hS] at rS; exact rS.elim
                | cons x r =>
                  cases r with
                  | nil => rw [hS] at rS; exact rS.2.elim
                  | cons y r =>
                    rw [hS] at rS nxt
                    have e5 : stepR true ls (x :: y :: r) c = .tree ⟨#[c]⟩ x y :: r := by unfold stepR; rw [if_neg h1, if_pos h2]
                    obtain ⟨p1, p2⟩ := runR_push (xs := [.str ⟨#[c]⟩, .ref d, .ref d']) (s := .tree ⟨#[c]⟩ x y) e3 k3 rS.2.2 ht (.tree upd_same ((rS.1.keepT k3).same (same_new ht)) ((rS.2.1.keepT k3).same (same_new ht)))
                    refine ⟨D, _, _, rfl, rfl, same_new ht _ _ e3, small' hrest, _, _, rest ++ [t], rfl, same_fresh hD0 (g3.trans (same_new ht)), p1, ?_, cS', lS', fS'⟩
                    rw [nxt, e5]
                    exact p2
              | [], h, _ => rw [← h] at hw2; cases hw2
              | [_], h, _ => rw [← h] at hw2; simp at hw2
              | _ :: _ :: _ :: _, h, _ => rw [← h] at hw2; simp at hw2
        · have h3 := of_decide_eq_false (Bool.eq_false_iff.mpr c3)
          refine ⟨_, _, as, rfl, g, eD, ?_, cS', lS', fS'⟩
          rw [nxt, stepR_few h1]
          · exact rS
          · have := rS.len
            rw [List.length_reverse] at this
            cases two with
            | false =>
              have h4 : ¬ (((as.map V.ref).length : Nat) : Int) ≥ 1 := h3
              rw [List.length_map] at h4
              show _ < 1
              omega
            | true =>
              have h4 : ¬ (((as.map V.ref).length : Nat) : Int) ≥ 2 := h3
              rw [List.length_map] at h4
              show _ < 2
              omega
      · have h2 := of_decide_eq_false (Bool.eq_false_iff.mpr c2)
        refine iteF' ⟨_, _, as, rfl, g, eD, ?_, cS', lS', fS'⟩
        rw [nxt, stepR_out h1 h2]
        exact rS
  · obtain ⟨y5, y6, as, rfl, g, eD, rS, cS, lS, fS⟩ := p
    have las : as.length = (runR two ls z z.length).length := by rw [← rS.len, List.length_reverse]
    refine ⟨_, rfl, D, _, rfl, .inl (SqL.of eD), rfl, _, rfl, ?_⟩
    rw [List.length_map]
    by_cases hl1 : as.length = 1
    · refine ite2 (fun c9 => absurd c9 ?_) (fun _ => ?_)
      · rw [hl1]
        decide
      match as, hl1, rS, eD with
      | [x], _, rS, eD =>
        cases hS : runR two ls z z.length with
        | nil => rw [hS] at rS; exact rS.elim
        | cons s r =>
          rw [hS] at rS cS fS
          have hr0 : r = [] := by
            cases r with
            | nil => rfl
            | cons _ _ => exact rS.2.elim
          subst hr0
          have hc : s.count ≤ 100 := by
            have e : csum [s] = s.count := by simp [csum]
            omega
          refine ⟨_, rfl, D, _, 0, _, rfl, rfl, SqL.of eD, rfl, x, s, rfl, rS.1, hc, fits_ones hls (fS s (by simp)), fun H3 g3 => ?_⟩
          by_cases ht : text s = z
          · refine ⟨_, rfl, rfl, false, congrArg V.bl (by rw [ht, decide_eq_true rfl]; rfl), iteF' ?_⟩
            exact ⟨_, rfl, D, _, 0, _, rfl, rfl, SqL.of (g3 _ _ eD), rfl, q s hS ht _ _ (g.trans g3) (rS.1.same g3)⟩
          · refine ⟨_, rfl, rfl, true, congrArg V.bl (by rw [decide_eq_false (fun h => ht (by injection h))]; rfl), iteT' ?_⟩
            refine qE (fun s' hs' => ?_) _ (g.trans g3)
            rw [hS] at hs'
            obtain rfl : s = s' := by simpa using hs'
            exact ht
    · refine ite2 (fun _ => iteT' (qE (fun s' hs' => ?_) _ g)) (fun c9 => ?_)
      · rw [hs'] at las
        exact absurd las hl1
      · exact absurd ((Bool.not_eq_true' _).mpr (decide_eq_false fun h => by injection h with h; omega)) c9
end
end K01
set_option Elab.async false
set_option linter.all false
set_option maxRecDepth 100000
set_option maxHeartbeats 2000000
namespace K01
open PySem PySem.Spec PyProof.Rows L2
abbrev sLKind : Stmt := top 29
abbrev sLText : Stmt := top 33
theorem scLKind : FnScope ["tape", "labels"] ["tape"] (defScope sLKind) := ⟨rfl, rfl, rfl, by decide +kernel, rfl, by decide +kernel, by decide +kernel⟩
theorem scLText : FnScope ["shape"] ["shape"] (defScope sLText) := ⟨rfl, rfl, rfl, by decide +kernel, rfl, by decide +kernel, by decide +kernel⟩
theorem TapeOk.same {H H' : Hp} {t : Addr} (g : Same H H') (h : TapeOk H t) : TapeOk H' t := by
  obtain ⟨kvs, c, T⟩ := h
  obtain ⟨ns, e, hn⟩ := T.list
  exact ⟨kvs, c, g _ _ T.dict, T.len, T.cells, ⟨ns, g _ _ e, hn⟩, T.at, T.left, T.seed, T.salt⟩
theorem TapeOk.ne {H : Hp} {t a : Addr} {xs : List V} (h : TapeOk H t) (e : H a = some (.tup xs)) : a ≠ t := by
  obtain ⟨kvs, c, T⟩ := h
  intro z
  rw [z, T.dict] at e
  cases e
theorem KindAt.but {H H' : Hp} {t k : Addr} {two : Bool} {ls : List Str} (T : TapeOk H t) (g : But t H H') (h : KindAt H k two ls) : KindAt H' k two ls := by
  obtain ⟨lab, a, b, c⟩ := h
  exact ⟨lab, g _ _ (T.ne a) a, g _ _ (T.ne b) b, c⟩
def spLKind : Sp := fun vs H Q _ => ∃ t : Addr, vs = [.ref t] ∧ TapeOk H t ∧ ∀ H' k two ls, But t H H' → TapeOk H' t → KindAt H' k two ls → Q (.ref k) H'
def data : Sh → PyData
  | .nil => .tuple []
  | .word l t => .tuple [.str l, data t]
  | .tree l a b => .tuple [.str l, data a, data b]
theorem data_lay : ∀ t : Sh, Ones t → (data t).canLay0 = true
  | .nil, _ => rfl
  | .word l t, h => by simp [data, PyData.canLay0, PyData.canLayAll0, data_lay t h.2, h.1.2]
  | .tree l a b, h => by simp [data, PyData.canLay0, PyData.canLayAll0, data_lay a h.2.1, data_lay b h.2.2, h.1.2]
theorem data_depth : ∀ t : Sh, (data t).depth ≤ t.count + 1
  | .nil => by simp [data, PyData.depth, PyData.depthAll]
  | .word l t => by
    have := data_depth t
    simp only [data, PyData.depth, PyData.depthAll, Sh.count]
    omega
  | .tree l a b => by
    have := data_depth a
    have := data_depth b
    simp only [data, PyData.depth, PyData.depthAll, Sh.count]
    omega
theorem data_shaped {t : Sh} (ho : Ones t) (h : t.count ≤ 60) : SeqAt.shaped (data t) = true := by
  unfold SeqAt.shaped
  rw [data_lay t ho, Bool.true_and]
  have := data_depth t
  exact decide_eq_true (by omega)
theorem Rep.data {K : PySem.W.Frag} {H : Hp} {a : Addr} {t : Sh} (r : Rep H a t) : Dp K H (.ref a) (data t) := by
  induction r with
  | nil h => exact .tup (SqT.of h) .nil
  | word h _ ih => exact .tup (SqT.of h) (.cons (.str _) (.cons ih .nil))
  | tree h _ _ i1 i2 => exact .tup (SqT.of h) (.cons (.str _) (.cons i1 (.cons i2 .nil)))
def spLText (n : Nat) : Sp := fun vs H Q _ => ∃ (a : Addr) (t : Sh), vs = [.ref a] ∧ Rep H a t ∧ t.count < n ∧ t.count ≤ 40 ∧ Ones t ∧ ∀ H', Same H H' → Q (.str (text t)) H'
section
variable {P : Program} {w : World} {K : PySem.W.Frag} {mg : Str → Option Value} {base : Heap}
theorem ok_lkind {f g : Addr} {fd gd : FuncData} {k : Nat} (F : Fun K "_law_kind" "_law_kind" sLKind f fd) (G : FnOk P w K mg base CX0 k g gd ["tape", "many"] spTake) (bG : Binds K gd ["tape", "many"] []) (kG : PySem.W.keepIn K (.ref g) = true) (mG : mg "_law_take" = some (.ref g)) : FnOk P w K mg base CX0 (k + 1) f fd ["tape"] spLKind := by
  refine F.ok scLKind (fun vs H Q E h => ?_) (fun cdv A outer s H vs Q E hr h => ?_)
  · obtain ⟨t, rfl, _⟩ := h
    rfl
  obtain ⟨t, rfl, hT, q⟩ := h
  refine ⟨_, pss_cons (ps_set (i := 1) scLKind.nd rfl (Or.inl rfl) (pe_ix ix_tup (pe_tup (pa_cons (pe_tup (pa_cons pe_str pa_nil)) (pa_cons (pe_tup (pa_cons pe_str (pa_cons pe_str pa_nil))) (pa_cons (pe_tup (pa_cons pe_str (pa_cons pe_str pa_nil))) (pa_cons (pe_tup (pa_cons pe_str (pa_cons pe_str (pa_cons pe_str pa_nil)))) pa_nil)))))
      (pe_call G hr (by rfl) mG kG bG .nil pass0 (pa_cons (pv 0) (pa_cons pe_int pa_nil))) (fun _ _ => rfl)))
    (pss_one (ps_ret (pe_tup (pa_cons (pe_op op_add pe_int (pe_op op_fdivN (pe_call G hr (by rfl) mG kG bG .nil pass0 (pa_cons (pv 0) (pa_cons pe_int pa_nil))) pe_int)) (pa_cons (pv 1) pa_nil))))), ?_⟩
  refine ⟨(by show 1 ≤ sizeLine; exact small (by decide)), fun a1 h1 => ⟨(by show 2 ≤ sizeLine; exact small (by decide)), fun a2 h2 => ⟨(by show 2 ≤ sizeLine; exact small (by decide)), fun a3 h3 => ⟨(by show 3 ≤ sizeLine; exact small (by decide)), fun a4 h4 => ⟨(by show 4 ≤ sizeLine; exact small (by decide)), fun a5 h5 => ?_⟩⟩⟩⟩⟩
  have g1 := same_new (o := .tup [.str "a"]) h1
  have g2 := same_new (o := .tup [.str "a", .str "b"]) h2
  have g3 := same_new (o := .tup [.str "a", .str "b"]) h3
  have g4 := same_new (o := .tup [.str "b", .str "d", .str "z"]) h4
  have g5 := same_new (o := .tup [.ref a1, .ref a2, .ref a3, .ref a4]) h5
  have gH := (((g1.trans g2).trans g3).trans g4).trans g5
  have T5 := hT.same gH
  refine ⟨_, rfl, t, 4, rfl, T5, by decide, by decide, fun H6 z b6 T6 z0 z4 => ?_⟩
  have e1 := g5 _ _ (g4 _ _ (g3 _ _ (g2 _ _ (upd_same (H := H) (a := a1) (o := .tup [.str "a"])))))
  have e2 := g5 _ _ (g4 _ _ (g3 _ _ (upd_same (a := a2) (o := .tup [.str "a", .str "b"]))))
  have e3 := g5 _ _ (g4 _ _ (upd_same (a := a3) (o := .tup [.str "a", .str "b"])))
  have e4 := g5 _ _ (upd_same (a := a4) (o := .tup [.str "b", .str "d", .str "z"]))
  have e6 := b6 _ _ (T5.ne upd_same) (upd_same (a := a5) (o := .tup [.ref a1, .ref a2, .ref a3, .ref a4]))
  obtain ⟨lab, ls, hls, hat, el⟩ : ∃ lab ls, ls ∈ LS ∧ atI [V.ref a1, .ref a2, .ref a3, .ref a4] z = some (.ref lab) ∧ H6 lab = some (.tup (ls.map V.str)) := by
    have hz : z = ((0 : Nat) : Int) ∨ z = ((1 : Nat) : Int) ∨ z = ((2 : Nat) : Int) ∨ z = ((3 : Nat) : Int) := by omega
    rcases hz with rfl | rfl | rfl | rfl
    · exact ⟨a1, LA, by simp [LS], atI_nat rfl, b6 _ _ (T5.ne e1) e1⟩
    · exact ⟨a2, LB, by simp [LS], atI_nat rfl, b6 _ _ (T5.ne e2) e2⟩
    · exact ⟨a3, LB, by simp [LS], atI_nat rfl, b6 _ _ (T5.ne e3) e3⟩
    · exact ⟨a4, LC, by simp [LS], atI_nat rfl, b6 _ _ (T5.ne e4) e4⟩
  refine ⟨a5, _, _, _, rfl, rfl, SqT.of e6, hat, ?_⟩
  refine ⟨_, rfl, t, 5, rfl, T6, by decide, by decide, fun H7 y b7 T7 y0 y5 => ?_⟩
  refine ⟨_, _, rfl, rfl, ⟨by decide, by decide⟩, _, _, rfl, rfl, _, rfl, (by show 2 ≤ sizeLine; exact small (by decide)), fun k hk => ?_⟩
  have el7 := b7 _ _ (T6.ne el) el
  have g8 := same_new (H := H7) (p := k) (o := .tup [.int (1 + y.fdiv 3), .ref lab]) hk
  refine q _ k (decide (2 < y)) ls ?_ (T7.same g8) ⟨lab, ?_, g8 _ _ el7, hls⟩
  · exact (((But.of gH).trans b6).trans b7).trans (But.of g8)
  · have hy : y = 0 ∨ y = 1 ∨ y = 2 ∨ y = 3 ∨ y = 4 := by omega
    rcases hy with rfl | rfl | rfl | rfl | rfl <;> exact upd_same
theorem ok_ltext {f : Addr} {fd : FuncData} {n : Nat} (F : Fun K "_law_text" "_law_text" sLText f fd) (G : FnOk P w K mg base CX0 n f fd ["shape"] (spLText n)) (bG : Binds K fd ["shape"] []) (mG : mg "_law_text" = some (.ref f)) (ml : mg "len" = none) : FnOk P w K mg base CX0 (n + 1) f fd ["shape"] (spLText (n + 1)) := by
  refine F.ok scLText (fun vs H Q E h => ?_) (fun cdv A outer s H vs Q E hr h => ?_)
  · obtain ⟨t, _, rfl, _⟩ := h
    rfl
  obtain ⟨a, t, rfl, hR, hn, h40, ho, q⟩ := h
  refine ⟨_, pss_cons (ps_if (pt_cmpR (op_eqD hr.units) (pv 0) (pe_tup pa_nil) (nomark _)) (pss_one (ps_ret pe_str)) pss_nil)
    (pss_cons (ps_if (pt_cmpR op_eq (pe_callB call_len_seq (by rfl) ml PySem.boot_len (pa_cons (pv 0) pa_nil)) pe_int (nomark _))
      (pss_one (ps_ret (pe_op op_add_str (pe_ix ix_tup (pv 0) pe_int (fun _ _ => rfl)) (pe_call G hr (by rfl) mG F.kp bG .nil pass0 (pa_cons (pe_ix ix_tup (pv 0) pe_int (fun _ _ => rfl)) pa_nil))))) pss_nil)
    (pss_one (ps_ret (pe_op op_add_str (pe_op op_add_str (pe_op op_add_str (pe_op op_add_str (pe_op op_add_str (pe_ix ix_tup (pv 0) pe_int (fun _ _ => rfl)) pe_str) (pe_call G hr (by rfl) mG F.kp bG .nil pass0 (pa_cons (pe_ix ix_tup (pv 0) pe_int (fun _ _ => rfl)) pa_nil))) pe_str) (pe_call G hr (by rfl) mG F.kp bG .nil pass0 (pa_cons (pe_ix ix_tup (pv 0) pe_int (fun _ _ => rfl)) pa_nil))) pe_str)))), ?_⟩
  refine ⟨_, rfl, (by show 0 ≤ sizeLine; exact Nat.zero_le _), fun p hp => ?_⟩
  have g1 := same_new (o := .tup []) hp
  have r1 := hR.same g1
  refine ⟨data t, .tuple [], r1.data, .tup (SqT.of upd_same) .nil, data_shaped ho (by omega), rfl, _, rfl, ?_⟩
  have six := six
  cases r1 with
  | nil h => exact iteT' (q _ g1)
  | @word _ c l u h r =>
    refine iteF' ?_
    have hl := text_len u ho.2
    simp only [Sh.count] at hn h40
    refine ⟨_, rfl, a, _, rfl, .inr (SqT.of h), rfl, _, rfl, ifT rfl ?_⟩
    refine ⟨_, rfl, _, _, 0, _, rfl, rfl, SqT.of h, rfl, _, rfl, _, _, 1, _, rfl, rfl, SqT.of h, rfl, c, u, rfl, r, by omega, by omega, ho.2, fun H2 g2 => ?_⟩
    exact ⟨l, text u, rfl, rfl, by have := ho.1.1; omega, q _ (g1.trans g2)⟩
  | @tree _ c d l u v h r1 r2 =>
    refine iteF' ?_
    have h1 := text_len u ho.2.1
    have h2 := text_len v ho.2.2
    have h3 := ho.1.1
    simp only [Sh.count] at hn h40
    refine ⟨_, rfl, a, _, rfl, .inr (SqT.of h), rfl, _, rfl, ifF (fun z => by cases z) ?_⟩
    refine ⟨_, rfl, _, _, 0, _, rfl, rfl, SqT.of h, rfl, _, _, rfl, rfl, by rw [l1]; omega, ?_⟩
    refine ⟨_, rfl, _, _, 1, _, rfl, rfl, SqT.of h, rfl, c, u, rfl, r1, by omega, by omega, ho.2.1, fun H2 g2 => ?_⟩
    refine ⟨_, _, rfl, rfl, by rw [Str.length_append, l1]; omega, _, _, rfl, rfl, by rw [Str.length_append, Str.length_append, l1, l2]; omega, ?_⟩
    refine ⟨_, rfl, _, _, 2, _, rfl, rfl, SqT.of (g2 _ _ h), rfl, d, v, rfl, r2.same g2, by omega, by omega, ho.2.2, fun H3 g3 => ?_⟩
    exact ⟨_, _, rfl, rfl, by rw [Str.length_append, Str.length_append, Str.length_append, l1, l2]; omega, _, _, rfl, rfl, by rw [Str.length_append, Str.length_append, Str.length_append, Str.length_append, l1, l2, l3]; omega, q _ ((g1.trans g2).trans g3)⟩
theorem no_ltext {f : Addr} {fd : FuncData} : FnOk P w K mg base CX0 0 f fd ["shape"] (spLText 0) := by
  have no : ∀ vs H Q E, ¬ spLText 0 vs H Q E := fun vs H Q E h => by
    obtain ⟨a, t, _, _, h, _⟩ := h
    exact absurd h (Nat.not_lt_zero _)
  exact ⟨fun vs H Q E h => absurd h (no vs H Q E), fun A outer s H args us vs Q E _ _ _ _ h => absurd h (no vs H Q E)⟩
theorem all_ltext {f : Addr} {fd : FuncData} (F : Fun K "_law_text" "_law_text" sLText f fd) (bG : Binds K fd ["shape"] []) (mG : mg "_law_text" = some (.ref f)) (ml : mg "len" = none) : ∀ n, FnOk P w K mg base CX0 n f fd ["shape"] (spLText n)
  | 0 => no_ltext
  | n + 1 => ok_ltext F (all_ltext F bG mG ml n) bG mG ml
end
end K01
set_option Elab.async false
set_option linter.all false
set_option maxRecDepth 100000
set_option maxHeartbeats 2000000
namespace K01
open PySem PySem.Spec PyProof.Rows L2
theorem TapeOk.keepT {H H' : Hp} {t : Addr} (T : TapeOk H t) (g : But t H H') : KeepT H H' := fun b xs e => g b _ (T.ne e) e
theorem v3 {a b : V} {x y : Int} (h : x = y) : [a, b, V.int x] ++ [] = [a, b, V.int y] := by rw [h]; rfl
abbrev sLShape : Stmt := top 30
abbrev sLPaths : Stmt := top 31
theorem scLShape : FnScope ["tape", "kind", "count", "label", "left"] ["tape", "kind", "count"] (defScope sLShape) := ⟨rfl, rfl, rfl, by decide +kernel, rfl, by decide +kernel, by decide +kernel⟩
theorem scLPaths : FnScope ["shape", "path", "found", "way"] ["shape", "path"] (defScope sLPaths) := ⟨rfl, rfl, rfl, by decide +kernel, rfl, by decide +kernel, by decide +kernel⟩
def spLShape (n : Nat) : Sp := fun vs H Q _ => ∃ (t k : Addr) (c : Nat) (two : Bool) (ls : List Str), vs = [.ref t, .ref k, .int c] ∧ TapeOk H t ∧ KindAt H k two ls ∧ c < n ∧ c ≤ 40 ∧ ∀ H' a s, But t H H' → TapeOk H' t → Rep H' a s → Fits two ls s → s.count = c → Q (.ref a) H'
def spLPaths (n : Nat) : Sp := fun vs H Q _ => ∃ (a p : Addr) (t : Sh) (π : List Int), vs = [.ref a, .ref p] ∧ Rep H a t ∧ H p = some (.tup (π.map V.int)) ∧ t.count < n ∧ π.length + t.count ≤ 60 ∧ Ones t ∧ ∀ H' q as, Same H H' → H' q = some (.lst (as.map V.ref)) → Al (PItem H') as (pths π t) → Q (.ref q) H'
section
variable {P : Program} {w : World} {K : PySem.W.Frag} {mg : Str → Option Value} {base : Heap}
theorem ok_lshape {f g : Addr} {fd gd : FuncData} {n m : Nat} (F : Fun K "_law_shape" "_law_shape" sLShape f fd) (S : FnOk P w K mg base CX0 m f fd ["tape", "kind", "count"] (spLShape n)) (bS : Binds K fd ["tape", "kind", "count"] []) (mS : mg "_law_shape" = some (.ref f))
    {j : Nat} (hj : j ≤ m) (G : FnOk P w K mg base CX0 j g gd ["tape", "many"] spTake) (bG : Binds K gd ["tape", "many"] []) (kG : PySem.W.keepIn K (.ref g) = true) (mG : mg "_law_take" = some (.ref g)) (ml : mg "len" = none) : FnOk P w K mg base CX0 (m + 1) f fd ["tape", "kind", "count"] (spLShape (n + 1)) := by
  refine F.ok scLShape (fun vs H Q E h => ?_) (fun cdv A outer s H vs Q E hr h => ?_)
  · obtain ⟨t, k, c, two, ls, rfl, _⟩ := h
    rfl
  obtain ⟨t, k, c, two, ls, rfl, hT, hK, hc, h40, q⟩ := h
  have hrj := hr.mono hj
  refine ⟨_, pss_cons (ps_if (pt_cmpR op_eq (pv 2) pe_int (nomark _)) (pss_one (ps_ret (pe_tup pa_nil))) pss_nil)
    (pss_cons (ps_set (i := 3) scLShape.nd rfl (Or.inl rfl) (pe_ix ix_tup (pe_ix ix_tup (pv 1) pe_int (fun _ _ => rfl)) (pe_call G hrj (by rfl) mG kG bG .nil pass0 (pa_cons (pv 0) (pa_cons (pe_callB call_len_seq (by rfl) ml PySem.boot_len (pa_cons (pe_ix ix_tup (pv 1) pe_int (fun _ _ => rfl)) pa_nil)) pa_nil))) (fun _ _ => rfl)))
    (pss_cons (ps_if (pt_cmpR op_eq (pe_ix ix_tup (pv 1) pe_int (fun _ _ => rfl)) pe_int (nomark _))
      (pss_one (ps_ret (pe_tup (pa_cons (pv 3) (pa_cons (pe_call S hr (by rfl) mS F.kp bS .nil pass0 (pa_cons (pv 0) (pa_cons (pv 1) (pa_cons (pe_op op_sub (pv 2) pe_int) pa_nil)))) pa_nil))))) pss_nil)
    (pss_cons (ps_set (i := 4) scLShape.nd rfl (Or.inl rfl) (pe_call G hrj (by rfl) mG kG bG .nil pass0 (pa_cons (pv 0) (pa_cons (pv 2) pa_nil))))
    (pss_one (ps_ret (pe_tup (pa_cons (pv 3) (pa_cons (pe_call S hr (by rfl) mS F.kp bS .nil pass0 (pa_cons (pv 0) (pa_cons (pv 1) (pa_cons (pv 4) pa_nil)))) (pa_cons (pe_call S hr (by rfl) mS F.kp bS .nil pass0 (pa_cons (pv 0) (pa_cons (pv 1) (pa_cons (pe_op op_sub (pe_op op_sub (pv 2) pe_int) (pv 4)) pa_nil)))) pa_nil))))))))), ?_⟩
  obtain ⟨lab, ek, el, hls⟩ := id hK
  refine ⟨_, rfl, rfl, _, rfl, ?_⟩
  by_cases hc0 : c = 0
  · subst hc0
    refine ifT rfl ⟨(by show 0 ≤ sizeLine; exact Nat.zero_le _), fun p hp => ?_⟩
    exact q _ p .nil (But.of (same_new hp)) (hT.same (same_new hp)) (.nil upd_same) True.intro rfl
  · refine ifF (fun z => by injection z with z; omega) ?_
    have hl : 1 ≤ ls.length ∧ ls.length ≤ 3 := by
      rcases ls_cases hls with rfl | rfl | rfl <;> decide +kernel
    refine ⟨_, rfl, k, _, 1, _, rfl, rfl, SqT.of ek, rfl, _, rfl, _, rfl, k, _, 1, _, rfl, rfl, SqT.of ek, rfl, lab, _, rfl, .inr (SqT.of el), t, _, rfl, hT, by rw [List.length_map]; omega, by rw [List.length_map]; omega, fun H1 z b1 T1 z0 z1 => ?_⟩
    rw [List.length_map] at z1
    have k1 := hT.keepT b1
    have hz : z.toNat < ls.length := by omega
    have hat : atI (ls.map V.str) z = some (.str ls[z.toNat]) := at_of (j := z.toNat) (by omega) (by rw [List.getElem?_map, List.getElem?_eq_getElem hz] <;> rfl)
    have hlm : ls[z.toNat] ∈ ls := List.getElem_mem hz
    generalize ls[z.toNat] = l at hat hlm
    have hK1 := hK.but hT b1
    refine ⟨lab, _, _, _, rfl, rfl, SqT.of (k1 _ _ el), hat, ?_⟩
    refine ⟨_, rfl, k, _, 0, _, rfl, rfl, SqT.of (k1 _ _ ek), rfl, rfl, _, rfl, ?_⟩
    cases two with
    | false =>
      refine ifT rfl ?_
      refine ⟨_, rfl, _, rfl, _, rfl, _, rfl, _, _, rfl, rfl, t, k, c - 1, false, ls, v3 (y := ((c - 1 : Nat) : Int)) (show (c : Int) - 1 = _ by omega), T1, hK1, by omega, by omega, fun H2 a2 s2 b2 T2 r2 f2 c2 => ?_⟩
      refine ⟨(by show 2 ≤ sizeLine; exact small (by decide)), fun p hp => ?_⟩
      have gp := same_new (o := .tup [.str l, .ref a2]) hp
      exact q _ p (.word l s2) ((b1.trans b2).trans (But.of gp)) (T2.same gp) (.word upd_same (r2.same gp)) ⟨rfl, hlm, f2⟩ (by simp only [Sh.count]; omega)
    | true =>
      refine ifF (fun z => by injection z with z; exact absurd z (by decide)) ?_
      refine ⟨_, rfl, _, rfl, t, _, rfl, T1, by omega, by omega, fun H2 y b2 T2 y0 y1 => ?_⟩
      have hK2 := hK1.but T1 b2
      refine ⟨_, rfl, _, rfl, _, rfl, _, rfl, t, k, y.toNat, true, ls, v3 (y := ((y.toNat : Nat) : Int)) (show y = _ by omega), T2, hK2, by omega, by omega, fun H3 a3 s3 b3 T3 r3 f3 c3 => ?_⟩
      have hK3 := hK2.but T2 b3
      refine ⟨_, rfl, _, rfl, _, rfl, _, _, rfl, rfl, _, rfl, _, _, rfl, rfl, t, k, c - 1 - y.toNat, true, ls, v3 (y := ((c - 1 - y.toNat : Nat) : Int)) (show (c : Int) - 1 - y = _ by omega), T3, hK3, by omega, by omega, fun H4 a4 s4 b4 T4 r4 f4 c4 => ?_⟩
      refine ⟨(by show 3 ≤ sizeLine; exact small (by decide)), fun p hp => ?_⟩
      have gp := same_new (o := .tup [.str l, .ref a3, .ref a4]) hp
      exact q _ p (.tree l s3 s4) ((((b1.trans b2).trans b3).trans b4).trans (But.of gp)) (T4.same gp) (.tree upd_same ((r3.keepT (T3.keepT b4)).same gp) (r4.same gp)) ⟨rfl, hlm, f3, f4⟩ (by simp only [Sh.count]; omega)
theorem no_lshape {f : Addr} {fd : FuncData} {m : Nat} : FnOk P w K mg base CX0 m f fd ["tape", "kind", "count"] (spLShape 0) := by
  have no : ∀ vs H Q E, ¬ spLShape 0 vs H Q E := fun vs H Q E h => by
    obtain ⟨t, k, c, two, ls, _, _, _, h, _⟩ := h
    exact absurd h (Nat.not_lt_zero _)
  exact ⟨fun vs H Q E h => absurd h (no vs H Q E), fun A outer s H args us vs Q E _ _ _ _ h => absurd h (no vs H Q E)⟩
theorem ones_kids {t s : Sh} (h : Ones t) (hs : s ∈ kids t) : Ones s ∧ s.count < t.count := by
  cases t with
  | nil => simp [kids] at hs
  | word l u =>
    simp only [kids, List.mem_singleton] at hs
    subst hs
    exact ⟨h.2, by simp only [Sh.count]; omega⟩
  | tree l u v =>
    simp only [kids, List.mem_cons, List.not_mem_nil, or_false] at hs
    rcases hs with rfl | rfl
    · exact ⟨h.2.1, by simp only [Sh.count]; omega⟩
    · exact ⟨h.2.2, by simp only [Sh.count]; omega⟩
theorem ok_lpaths {f : Addr} {fd : FuncData} {n : Nat} (F : Fun K "_law_paths" "_law_paths" sLPaths f fd) (S : FnOk P w K mg base CX0 n f fd ["shape", "path"] (spLPaths n)) (bS : Binds K fd ["shape", "path"] []) (mS : mg "_law_paths" = some (.ref f)) (ml : mg "len" = none) (mr : mg "range" = none) : FnOk P w K mg base CX0 (n + 1) f fd ["shape", "path"] (spLPaths (n + 1)) := by
  refine F.ok scLPaths (fun vs H Q E h => ?_) (fun cdv A outer s H vs Q E hr h => ?_)
  · obtain ⟨a, p, t, π, rfl, _⟩ := h
    rfl
  obtain ⟨a, p, t, π, rfl, hR, hp, hn, h60, ho, q⟩ := h
  refine ⟨_, pss_cons (ps_if (pt_cmpR (op_eqD hr.units) (pv 0) (pe_tup pa_nil) (nomark _)) (pss_one (ps_ret (pe_lst pa_nil))) pss_nil)
    (pss_cons (ps_set (i := 2) scLPaths.nd rfl (Or.inl rfl) (pe_lst (pa_cons (pv 1) pa_nil)))
    (pss_cons (ps_for PassesOwn.never rfl (pi_range1 (by rfl) mr (pa_cons (pe_op op_sub (pe_callB call_len_seq (by rfl) ml PySem.boot_len (pa_cons (pv 0) pa_nil)) pe_int) pa_nil)) (pg_name (i := 3) scLPaths.nd rfl (Or.inl rfl))
      (pss_one (ps_set (i := 2) scLPaths.nd rfl (Or.inl rfl) (pe_op op_cat (pv 2) (pe_call S hr (by rfl) mS F.kp bS .nil pass0 (pa_cons (pe_ix ix_tup (pv 0) (pe_op op_add (pv 3) pe_int) (fun _ _ => rfl)) (pa_cons (pe_op op_catA (pv 1) (pe_tup (pa_cons (pv 3) pa_nil))) pa_nil)))))))
    (pss_one (ps_ret (pv 2))))), ?_⟩
  refine ⟨_, rfl, (by show 0 ≤ sizeLine; exact Nat.zero_le _), fun p0 hp0 => ?_⟩
  have g1 := same_new (o := .tup []) hp0
  have r1 := hR.same g1
  refine ⟨data t, .tuple [], r1.data, .tup (SqT.of upd_same) .nil, data_shaped ho (by omega), rfl, PyData.eqv (data t) (.tuple []), rfl, ?_⟩
  by_cases ht : t = .nil
  · subst ht
    refine iteT' ⟨(by show 0 ≤ sizeLine; exact Nat.zero_le _), fun l hl => ?_⟩
    exact q _ l [] (g1.trans (same_new hl)) upd_same True.intro
  · have hne : PyData.eqv (data t) (.tuple []) = false := by
      cases t with
      | nil => exact absurd rfl ht
      | word l u => rfl
      | tree l u v => rfl
    rw [hne]
    refine iteF' ?_
    obtain ⟨xs, cs, ex, ed, rk, h3, hnil⟩ := r1.kids
    have hxl : xs.length = (kids t).length + 1 := by
      have h1 := congrArg List.length ed
      rw [List.length_drop, List.length_map, rk.len] at h1
      have : xs ≠ [] := fun z => by
        subst z
        have h2 := rk.len
        have : cs = [] := by cases cs with | nil => rfl | cons _ _ => simp at ed
        exact ht (hnil this).1
      have := List.length_pos_iff.mpr this
      omega
    have hk2 : (kids t).length ≤ 2 := by cases t <;> simp [kids]
    refine ⟨_, rfl, (by show 1 ≤ sizeLine; exact small (by decide)), fun D hD => ?_⟩
    have g2 := g1.trans (same_new (o := .lst [.ref p]) hD)
    have gD := same_new (o := .lst [.ref p]) hD
    refine ⟨_, rfl, a, _, rfl, .inr (SqT.of (gD _ _ ex)), _, _, rfl, rfl, ((kids t).length : Int), congrArg (fun z => [V.int z]) (by omega), by omega, by omega, ?_⟩
    refine for_range (n := (((kids t).length : Nat) : Int).toNat) (fun i σ H1 => ∃ (y3 : Option V) (fa : Addr) (as : List Addr), σ = [some (.ref a), some (.ref p), some (.ref fa), y3] ∧ Same (upd H p0 (.tup [])) H1 ∧ H1 fa = some (.lst (as.map V.ref)) ∧ Al (PItem H1) as (π :: ((kidsP π t).take i).flatMap fun q => pths q.1 q.2))
      ⟨none, D, [p], rfl, gD, upd_same, ⟨g2 _ _ hp, True.intro⟩⟩ (fun i σ H1 hi P1 => ?_) fun σ H1 P1 => ?_
    · obtain ⟨y3, fa, as, rfl, g, ef, al⟩ := P1
      have hik : i < (kids t).length := by omega
      obtain ⟨sj, hsj⟩ : ∃ sj, (kids t)[i]? = some sj := ⟨_, List.getElem?_eq_getElem hik⟩
      obtain ⟨cj, hcj, rcj⟩ := rk.get hsj
      have hok := ones_kids ho (List.mem_of_getElem? hsj)
      have hxj : xs[i + 1]? = some (V.ref cj) := by
        have z : (xs.drop 1)[i]? = some (V.ref cj) := by rw [ed, List.getElem?_map, hcj]; rfl
        rw [List.getElem?_drop, Nat.add_comm] at z
        exact z
      refine ⟨_, rfl, _, rfl, _, rfl, _, _, rfl, rfl, a, _, _, _, rfl, rfl, SqT.of (g _ _ ex), at_of (j := i + 1) (by omega) hxj, ?_⟩
      refine ⟨_, rfl, _, rfl, (by show 1 ≤ sizeLine; exact small (by decide)), fun s1 hs1 => ?_⟩
      have gs1 := same_new (o := .tup [.int (0 + (i : Int))]) hs1
      refine cat_path (gs1 _ _ (g _ _ (g1 _ _ hp))) upd_same (by omega) fun pp H2 g3 e3 => ?_
      have g12 := gs1.trans g3
      refine ⟨cj, pp, sj, π ++ [0 + (i : Int)], rfl, (rcj.same g).same g12, e3, by omega, by rw [List.length_append, List.length_singleton]; omega, hok.1, fun H3 l as' g4 el al' => ?_⟩
      have g13 := g12.trans g4
      have cap : (as ++ as').length ≤ 200 := by
        have h1 := al.len
        have h2 := al'.len
        rw [pths_len] at h2
        have h3 : ((kidsP π t).take i).flatMap (fun q => pths q.1 q.2) = (((kidsP π t).take i).flatMap fun q => pths q.1 q.2) := rfl
        have h4 : ((((kidsP π t).take i).flatMap fun q => pths q.1 q.2)).length ≤ t.count := by
          have e : (pths π t).length = t.count := pths_len π t
          rw [pths_eq, List.length_append] at e
          have e2 : (kidsP π t) = (kidsP π t).take i ++ (kidsP π t).drop i := (List.take_append_drop i _).symm
          rw [e2, List.flatMap_append, List.length_append] at e
          omega
        rw [List.length_cons] at h1
        rw [List.length_append]
        omega
      rw [List.length_append] at cap
      refine ⟨fa, l, _, _, rfl, rfl, g13 _ _ ef, el, by rw [List.length_map, List.length_map]; exact small (by omega), fun r hr2 => ?_⟩
      have gr := same_new (o := .lst (as.map V.ref ++ as'.map V.ref)) hr2
      refine ⟨_, r, as ++ as', rfl, (g.trans g13).trans gr, by rw [upd_same, List.map_append], ?_⟩
      rw [List.take_add_one, kidsP_get hsj, Option.toList_some, List.flatMap_append, ← List.cons_append]
      refine (al.mono (PItem.keep (KeepT.of (g13.trans gr)))).append ?_
      rw [List.flatMap_cons, List.flatMap_nil, List.append_nil]
      have e0 : (0 : Int) + (i : Int) = (i : Int) := by omega
      rw [e0] at al'
      exact al'.mono (PItem.keep (KeepT.of gr))
    · obtain ⟨y3, fa, as, rfl, g, ef, al⟩ := P1
      rw [List.take_of_length_le (by rw [kidsP_len]; omega)] at al
      have e : π :: ((kidsP π t).flatMap fun q => pths q.1 q.2) = pths π t := by
        rw [pths_eq]
        cases t with
        | nil => exact absurd rfl ht
        | word l u => rfl
        | tree l u v => rfl
      rw [e] at al
      exact ⟨_, rfl, q _ fa as (g1.trans g) ef al⟩
end
end K01
set_option Elab.async false
set_option linter.all false
set_option maxRecDepth 100000
set_option maxHeartbeats 2000000
namespace K01
open PySem PySem.Spec PyProof.Rows L2
abbrev sLPart : Stmt := top 32
abbrev sLTryP : Stmt := top 36
theorem scLPart : FnScope ["shape", "path", "way"] ["shape", "path"] (defScope sLPart) := ⟨rfl, rfl, rfl, by decide +kernel, rfl, by decide +kernel, by decide +kernel⟩
theorem scLTryP : FnScope ["shape", "path"] ["shape", "path"] (defScope sLTryP) := ⟨rfl, rfl, rfl, by decide +kernel, rfl, by decide +kernel, by decide +kernel⟩
def spLPart : Sp := fun vs H Q _ => ∃ (a p : Addr) (t s : Sh) (π : List Int) (W : List Sh), vs = [.ref a, .ref p] ∧ Rep H a t ∧ H p = some (.tup (π.map V.int)) ∧ wayF t π = some (W ++ [s]) ∧ ∀ c, Rep H c s → Q (.ref c) H
def spLTryP : Sp := fun vs H Q _ => ∃ (a p : Addr) (t : Sh) (π : List Int), vs = [.ref a, .ref p] ∧ Rep H a t ∧ H p = some (.tup (π.map V.int)) ∧ π.length ≤ 200 ∧
  (∀ W s, wayF t π = some (W ++ [s]) → s ≠ .nil → ∀ H' c, Same H H' → Rep H' c s → Q (.ref c) H') ∧ ((wayF t π = none ∨ ∃ W, wayF t π = some (W ++ [.nil])) → ∀ H', Same H H' → Q (.str "none") H')
theorem wayF_pre {t : Sh} {π : List Int} {W : List Sh} (h : wayF t π = some W) (i : Nat) : ∃ W', wayF t (π.take i) = some W' := by
  cases z : wayF t (π.take i) with
  | none => rw [wayF_stop z] at h; cases h
  | some W' => exact ⟨W', rfl⟩
section
variable {P : Program} {w : World} {K : PySem.W.Frag} {mg : Str → Option Value} {base : Heap}
theorem ok_lpart {f : Addr} {fd : FuncData} {k : Nat} (F : Fun K "_law_part" "_law_part" sLPart f fd) : FnOk P w K mg base CX0 (k + 1) f fd ["shape", "path"] spLPart := by
  refine F.ok scLPart (fun vs H Q E h => ?_) (fun cdv A outer s H vs Q E hr h => ?_)
  · obtain ⟨a, p, t, s', π, W, rfl, _⟩ := h
    rfl
  obtain ⟨a, p, t, sn, π, W, rfl, hR, hp, hW, q⟩ := h
  refine ⟨_, pss_cons (ps_for PassesOwn.never rfl (pi_tup (pv 1)) (pg_name (i := 2) scLPart.nd rfl (Or.inl rfl))
      (pss_one (ps_set (i := 0) scLPart.nd rfl (Or.inl rfl) (pe_ix ix_tup (pv 0) (pe_op op_add (pv 2) pe_int) (fun _ _ => rfl)))))
    (pss_one (ps_ret (pv 0))), ?_⟩
  refine ⟨_, rfl, p, rfl, ⟨_, SqT.of hp⟩, ?_⟩
  refine for_tup (xs := π.map V.int) (fun i σ H1 => H1 = H ∧ ∃ (y2 : Option V) (c : Addr) (W' : List Sh) (s' : Sh), σ = [some (.ref c), some (.ref p), y2] ∧ wayF t (π.take i) = some (W' ++ [s']) ∧ Rep H c s') ⟨rfl, none, a, [], t, rfl, rfl, hR⟩ (fun i σ H1 hi P1 => ?_) (fun i x σ H1 hx P1 => ?_) fun σ H1 P1 => ?_
  · obtain ⟨rfl, _⟩ := P1
    exact SqT.of hp
  · obtain ⟨rfl, y2, c, W', s', rfl, eW, rc⟩ := P1
    rw [List.getElem?_map] at hx
    obtain ⟨z, hz1, rfl⟩ : ∃ z, π[i]? = some z ∧ x = V.int z := by
      cases y : π[i]? with
      | none => rw [y] at hx; cases hx
      | some z => rw [y] at hx; exact ⟨z, rfl, (Option.some.inj hx).symm⟩
    obtain ⟨W2, eW2⟩ := wayF_pre hW (i + 1)
    rw [wayF_take hz1, eW] at eW2
    unfold stepW at eW2
    simp only [Option.bind_some, List.getLast?_append, List.getLast?_singleton, Option.some_or] at eW2
    cases v : kidAt s' z with
    | none => rw [v] at eW2; cases eW2
    | some u =>
      have v' := v
      unfold kidAt at v'
      by_cases h0 : 0 ≤ z
      · rw [if_pos h0] at v'
        obtain ⟨xs, cs, ex, ed, rk, h3, hnil⟩ := rc.kids
        obtain ⟨cu, hcu, rcu⟩ := rk.get v'
        have hxj : xs[z.toNat + 1]? = some (V.ref cu) := by
          have y : (xs.drop 1)[z.toNat]? = some (V.ref cu) := by rw [ed, List.getElem?_map, hcu]; rfl
          rw [List.getElem?_drop, Nat.add_comm] at y
          exact y
        refine ⟨_, rfl, _, rfl, _, _, rfl, rfl, c, _, _, _, rfl, rfl, SqT.of ex, at_of (j := z.toNat + 1) (by omega) hxj, rfl, _, cu, W' ++ [s'], u, rfl, ?_, rcu⟩
        rw [wayF_take hz1, eW]
        unfold stepW
        simp [v]
      · rw [if_neg h0] at v'
        cases v'
  · obtain ⟨rfl, y2, c, W', s', rfl, eW, rc⟩ := P1
    rw [List.length_map, List.take_length, hW] at eW
    obtain ⟨_, h2⟩ := List.append_inj' (Option.some.inj eW) rfl
    obtain rfl : sn = s' := by simpa using h2
    exact ⟨_, rfl, q c rc⟩
theorem ok_ltryp {f g C : Addr} {fd gd : FuncData} {k : Nat} (F : Fun K "_law_try_part" "_law_try_part" sLTryP f fd) (T : ExcT K mg "NoSuchElement" C) (G : FnOk P w K mg base (L2.CX P w) k g gd ["shape", "path"] (spPart C)) (bG : Binds K gd ["shape", "path"] []) (kG : PySem.W.keepIn K (.ref g) = true) (mG : mg "part" = some (.ref g)) : FnOk P w K mg base CX0 (k + 1) f fd ["shape", "path"] spLTryP := by
  refine F.ok scLTryP (fun vs H Q E h => ?_) (fun cdv A outer s H vs Q E hr h => ?_)
  · obtain ⟨a, p, t, π, rfl, _⟩ := h
    rfl
  obtain ⟨a, p, t, π, rfl, hR, hp, hz, q, qN⟩ := h
  refine ⟨_, pss_one (ps_try_only (tb := fun W => tRet (tCallS (spPart C) (WE W) (tCons (tVar 0) (tCons (tVar 1) tNil)))) (ts := fun _ _ _ => tRet (tC (.str "none"))) (Wout := fun _ _ _ _ => False) rfl rfl ⟨rfl, by decide, Or.inl T.g⟩ L2.takes0
      (fun W pn xe tk _ => pss_one (ps_ret (by exact (pe_callS G hr rfl mG kG bG (fun σ => passAt tk σ) (by exact (pa_cons (pv 0) (pa_cons (pv 1) pa_nil)))))))
      (fun a oe cls d pn hz hf => pss_one (ps_ret (by exact pe_str)))), ?_⟩
  refine ⟨_, rfl, _, rfl, a, p, t, π, rfl, hR, hp, hz, fun W s' eW hs H1 c g1 rc => q W s' eW hs H1 c g1 rc, fun h H1 g1 => ⟨true, T.e, fun _ a' ha' => qN h H1 g1, fun z => nomatch z⟩⟩
end
end K01
set_option Elab.async false
set_option linter.all false
set_option maxRecDepth 100000
set_option maxHeartbeats 2000000
namespace K01
open PySem PySem.Spec PyProof.Rows L2
abbrev sBent : Stmt := top 39
theorem scBent : FnScope ["tape", "text", "k", "more"] ["tape", "text"] (defScope sBent) := ⟨rfl, rfl, rfl, by decide +kernel, rfl, by decide +kernel, by decide +kernel⟩
def spBent : Sp := fun vs H Q _ => ∃ (t : Addr) (z : Str), vs = [.ref t, .str z] ∧ TapeOk H t ∧ z.length ≤ 500 ∧ ∀ H' z', But t H H' → TapeOk H' t → z'.length ≤ z.length + 1 → Q (.str z') H'
theorem cut_lo (z : Str) (k : Int) : (cutS z none (some k)).length ≤ HT.sIx z.length z.length (some k) := by
  show (((z.cps.toList.drop (HT.sIx z.length 0 none)).take (HT.sIx z.length z.length (some k) - HT.sIx z.length 0 none)).toArray).size ≤ _
  rw [List.size_toArray, List.length_take, HT.sIx_none]
  omega
theorem cut_hi (z : Str) (k : Int) : (cutS z (some k) none).length ≤ z.length - HT.sIx z.length 0 (some k) := by
  show (((z.cps.toList.drop (HT.sIx z.length 0 (some k))).take (HT.sIx z.length z.length none - HT.sIx z.length 0 (some k))).toArray).size ≤ _
  rw [List.size_toArray, List.length_take, HT.sIx_none]
  omega
section
variable {P : Program} {w : World} {K : PySem.W.Frag} {mg : Str → Option Value} {base : Heap}
theorem ok_bent {f g : Addr} {fd gd : FuncData} {k : Nat} (F : Fun K "_law_bent" "_law_bent" sBent f fd) (G : FnOk P w K mg base CX0 k g gd ["tape", "many"] spTake) (bG : Binds K gd ["tape", "many"] []) (kG : PySem.W.keepIn K (.ref g) = true) (mG : mg "_law_take" = some (.ref g)) (ml : mg "len" = none) : FnOk P w K mg base CX0 (k + 1) f fd ["tape", "text"] spBent := by
  refine F.ok scBent (fun vs H Q E h => ?_) (fun cdv A outer s H vs Q E hr h => ?_)
  · obtain ⟨t, z, rfl, _⟩ := h
    rfl
  obtain ⟨t, z, rfl, hT, hz, q⟩ := h
  refine ⟨_, pss_cons (ps_set (i := 2) scBent.nd rfl (Or.inl rfl) (pe_call G hr (by rfl) mG kG bG .nil pass0 (pa_cons (pv 0) (pa_cons (pe_op op_add (pe_callB call_len_str (by rfl) ml PySem.boot_len (pa_cons (pv 1) pa_nil)) pe_int) pa_nil))))
    (pss_cons (ps_set (i := 3) scBent.nd rfl (Or.inl rfl) (pe_ix ix_list (pe_lst (pa_cons pe_str (pa_cons pe_str (pa_cons pe_str (pa_cons pe_str (pa_cons pe_str (pa_cons pe_str (pa_cons pe_str (pa_cons pe_str pa_nil))))))))) (pe_call G hr (by rfl) mG kG bG .nil pass0 (pa_cons (pv 0) (pa_cons pe_int pa_nil))) (fun _ _ => rfl)))
    (pss_one (ps_ret (pe_op op_add_str (pe_op op_add_str (pe_slice sl_str (pv 1) po_none (po_some (pv 2))) (pv 3)) (pe_slice sl_str (pv 1) (po_some (pe_op op_add (pv 2) (pe_call G hr (by rfl) mG kG bG .nil pass0 (pa_cons (pv 0) (pa_cons pe_int pa_nil))))) po_none))))), ?_⟩
  refine ⟨_, rfl, _, rfl, z, rfl, small (by omega), _, _, rfl, rfl, t, _, rfl, hT, by omega, by omega, fun H1 y b1 T1 y0 y1 => ?_⟩
  refine ⟨(by show 8 ≤ sizeLine; exact small (by decide)), fun L hL => ?_⟩
  generalize hHL : upd H1 L _ = H2
  have g2 : Same H1 H2 := by rw [← hHL]; exact same_new hL
  have eL : H2 L = some (.lst ((["", "a", ".", "(", ",", ")", "b", "q"] : List Str).map V.str)) := by rw [← hHL, upd_same]; rfl
  have T2 := T1.same g2
  refine ⟨_, rfl, t, 8, rfl, T2, by decide, by decide, fun H3 x b3 T3 x0 x1 => ?_⟩
  have hLt : L ≠ t := by
    obtain ⟨kvs, c, Tt⟩ := T2
    intro e
    rw [e, Tt.dict] at eL
    cases eL
  have eL3 := b3 _ _ hLt eL
  have hx : x.toNat < 8 := by omega
  obtain ⟨mo, hmo, hml⟩ : ∃ mo : Str, (["", "a", ".", "(", ",", ")", "b", "q"] : List Str)[x.toNat]? = some mo ∧ mo.length ≤ 1 := by
    have all : ∀ i : Nat, i < 8 → ∃ mo : Str, (["", "a", ".", "(", ",", ")", "b", "q"] : List Str)[i]? = some mo ∧ mo.length ≤ 1 := by
      intro i hi
      match i, hi with
      | 0, _ => exact ⟨_, rfl, by decide +kernel⟩
      | 1, _ => exact ⟨_, rfl, by decide +kernel⟩
      | 2, _ => exact ⟨_, rfl, by decide +kernel⟩
      | 3, _ => exact ⟨_, rfl, by decide +kernel⟩
      | 4, _ => exact ⟨_, rfl, by decide +kernel⟩
      | 5, _ => exact ⟨_, rfl, by decide +kernel⟩
      | 6, _ => exact ⟨_, rfl, by decide +kernel⟩
      | 7, _ => exact ⟨_, rfl, by decide +kernel⟩
    exact all _ hx
  refine ⟨L, _, _, _, rfl, rfl, SqL.of eL3, at_of (j := x.toNat) (by omega) (by rw [List.getElem?_map, hmo] <;> rfl), ?_⟩
  have six := six
  have l1 := cut_lo z y
  have s1 : HT.sIx z.length z.length (some y) = y.toNat := by
    have := HT.sIx_nat z.length z.length y.toNat
    rw [show ((y.toNat : Nat) : Int) = y by omega] at this
    rw [this]
    omega
  rw [s1] at l1
  refine ⟨_, rfl, _, rfl, y, rfl, z, rfl, small (by omega), _, rfl, _, _, rfl, rfl, by omega, ?_⟩
  refine ⟨_, rfl, _, rfl, _, rfl, t, 2, rfl, T3, by decide, by decide, fun H4 d b4 T4 d0 d1 => ?_⟩
  have l2 := cut_hi z (y + d)
  have s2 : HT.sIx z.length 0 (some (y + d)) = min (y + d).toNat z.length := by
    have := HT.sIx_nat z.length 0 (y + d).toNat
    rwa [show (((y + d).toNat : Nat) : Int) = y + d by omega] at this
  rw [s2] at l2
  refine ⟨_, _, rfl, rfl, y + d, rfl, z, rfl, small (by omega), _, _, rfl, rfl, by rw [Str.length_append]; omega, ?_⟩
  refine q _ _ (((b1.trans (But.of g2)).trans b3).trans b4) T4 ?_
  rw [Str.length_append, Str.length_append]
  omega
end
end K01
set_option Elab.async false
set_option linter.all false
set_option maxRecDepth 100000
set_option maxHeartbeats 2000000
namespace K01
open PySem PySem.Spec PyProof.Rows L2
def putKid : Sh → Int → Sh → Sh
  | .nil, _, _ => .nil
  | .word l _, _, s => .word l s
  | .tree l a b, k, s => if k = 0 then .tree l s b else .tree l a s
def setAt : Sh → List Int → Sh → Option Sh
  | _, [], u => some u
  | t, k :: π, u => (kidAt t k).bind fun s => (setAt s π u).map fun s' => putKid t k s'
abbrev sLWith : Stmt := top 38
theorem scLWith : FnScope ["shape", "path", "new", "way"] ["shape", "path", "new"] (defScope sLWith) := ⟨rfl, rfl, rfl, by decide +kernel, rfl, by decide +kernel, by decide +kernel⟩
def spLWith (n : Nat) : Sp := fun vs H Q _ => ∃ (a p c : Addr) (t u r : Sh) (π : List Int), vs = [.ref a, .ref p, .ref c] ∧ Rep H a t ∧ H p = some (.tup (π.map V.int)) ∧ Rep H c u ∧ π.length < n ∧ π.length ≤ 60 ∧ setAt t π u = some r ∧ ∀ H' b, Same H H' → Rep H' b r → Q (.ref b) H'
theorem ints_data {K : PySem.W.Frag} {H : Hp} {p : Addr} {π : List Int} (h : H p = some (.tup (π.map V.int))) : Dp K H (.ref p) (.tuple (π.map PyData.int)) := by
  refine .tup (SqT.of h) ?_
  clear h
  induction π with
  | nil => exact .nil
  | cons x r ih => exact .cons (.int x) ih
theorem ints_shaped (π : List Int) : SeqAt.shaped (.tuple (π.map PyData.int)) = true := by
  have h1 : PyData.canLayAll0 (π.map PyData.int) = true := by
    induction π with
    | nil => rfl
    | cons x r ih => simp [PyData.canLayAll0, PyData.canLay0, ih]
  have h2 : PyData.depthAll (π.map PyData.int) = 0 := by
    induction π with
    | nil => rfl
    | cons x r ih =>
      have h3 : PyData.canLayAll0 (r.map PyData.int) = true := by
        simpa [PyData.canLayAll0, PyData.canLay0] using h1
      simp [PyData.depthAll, PyData.depth, ih h3]
  unfold SeqAt.shaped
  simp [PyData.canLay0, PyData.depth, h1, h2]
/-- t[:k], not the whole -/
theorem pre_sl {K : PySem.W.Frag} {H : Hp} {c : Addr} {xs : List V} {k : Nat} {Q : VK} (h : H c = some (.tup xs)) (hk : k < xs.length) (q : ∀ p H', Same H H' → H' p = some (.tup (xs.take k)) → Q (.ref p) H') : rSlA K (.ref c) none (some (k : Int)) H Q := by
  have e1 : HT.sIx xs.length xs.length (some (k : Int)) = k := by rw [HT.sIx_nat]; omega
  refine ⟨c, xs, rfl, SqT.of h, fun z => ?_, fun _ p hp => ?_⟩
  · have := z.2
    omega
  · refine q p _ (same_new hp) ?_
    rw [upd_same]
    unfold cutV
    rw [e1, HT.sIx_none, List.drop_zero, Nat.sub_zero]
/-- t[k:], not the whole -/
theorem post_sl {K : PySem.W.Frag} {H : Hp} {c : Addr} {xs : List V} {k : Nat} {σ : L2.St} {Q : VK} (h : H c = some (.tup xs)) (h0 : 0 < k) (hx : 0 < xs.length) (q : ∀ p H', Same H H' → H' p = some (.tup (xs.drop k)) → Q (.ref p) H') : tNoPart σ H fun u H3 => rSlA K (.ref c) (some (k : Int)) u H3 Q := by
  have e1 : HT.sIx xs.length 0 (some (k : Int)) = min k xs.length := HT.sIx_nat _ _ _
  refine ⟨c, xs, rfl, SqT.of h, fun z => ?_, fun _ p hp => ?_⟩
  · have := z.1
    omega
  · refine q p _ (same_new hp) ?_
    rw [upd_same]
    unfold cutV
    rw [e1, HT.sIx_none]
    have : (xs.drop (min k xs.length)).take (xs.length - min k xs.length) = xs.drop k := by
      rw [List.take_of_length_le (by rw [List.length_drop]; exact Nat.le_refl _)]
      by_cases hk : k ≤ xs.length
      · rw [Nat.min_eq_left hk]
      · rw [Nat.min_eq_right (by omega), List.drop_length, List.drop_eq_nil_of_le (by omega)]
    rw [this]
/-- x + y of two tuples -/
theorem cat_tup {K : PySem.W.Frag} {H : Hp} {a b : Addr} {xs ys : List V} {Q : VK} (e1 : H a = some (.tup xs)) (e2 : H b = some (.tup ys)) (hz : xs.length + ys.length ≤ 1000) (q : ∀ p H', Same H H' → H' p = some (.tup (xs ++ ys)) → Q (.ref p) H') : rCatA K (.ref a) (.ref b) H Q := by
  refine ⟨a, b, _, _, rfl, rfl, SqT.of e1, SqT.of e2, small hz, fun h => ?_, fun _ h => ?_, fun _ _ p hp => ?_⟩
  · refine q b H (Same.refl H) ?_
    rw [h, List.nil_append]
    exact e2
  · refine q a H (Same.refl H) ?_
    rw [h, List.append_nil]
    exact e1
  · refine q p _ (same_new hp) ?_
    rw [upd_same]
section
variable {P : Program} {w : World} {K : PySem.W.Frag} {mg : Str → Option Value} {base : Heap}
theorem ok_lwith {f : Addr} {fd : FuncData} {n : Nat} (F : Fun K "_law_with" "_law_with" sLWith f fd) (S : FnOk P w K mg base CX0 n f fd ["shape", "path", "new"] (spLWith n)) (bS : Binds K fd ["shape", "path", "new"] []) (mS : mg "_law_with" = some (.ref f)) : FnOk P w K mg base CX0 (n + 1) f fd ["shape", "path", "new"] (spLWith (n + 1)) := by
  refine F.ok scLWith (fun vs H Q E h => ?_) (fun cdv A outer s H vs Q E hr h => ?_)
  · obtain ⟨a, p, c, t, u, r, π, rfl, _⟩ := h
    rfl
  obtain ⟨a, p, c, t, u, r, π, rfl, hR, hp, hU, hn, h60, hset, q⟩ := h
  refine ⟨_, pss_cons (ps_if (pt_cmpR (op_eqD hr.units) (pv 1) (pe_tup pa_nil) (nomark _)) (pss_one (ps_ret (pv 2))) pss_nil)
    (pss_cons (ps_set (i := 3) scLWith.nd rfl (Or.inl rfl) (pe_ix ix_tup (pv 1) pe_int (fun _ _ => rfl)))
    (pss_one (ps_ret (pe_op op_catA (pe_op op_catA (pe_slice sl_tupA (pv 0) po_none (po_some (pe_op op_add (pv 3) pe_int)))
        (pe_tup (pa_cons (pe_call S hr (by rfl) mS F.kp bS .nil pass0 (pa_cons (pe_ix ix_tup (pv 0) (pe_op op_add (pv 3) pe_int) (fun _ _ => rfl)) (pa_cons (pe_slice sl_tupA (pv 1) (po_some pe_int) po_none) (pa_cons (pv 2) pa_nil)))) pa_nil)))
      (pe_slice sl_tupA (pv 0) (po_some (pe_op op_add (pv 3) pe_int)) po_none))))), ?_⟩
  refine ⟨_, rfl, (by show 0 ≤ sizeLine; exact Nat.zero_le _), fun p0 hp0 => ?_⟩
  have g1 := same_new (o := .tup []) hp0
  refine ⟨_, .tuple [], ints_data (g1 _ _ hp), .tup (SqT.of upd_same) .nil, ints_shaped π, rfl, PyData.eqv (.tuple (π.map PyData.int)) (.tuple []), rfl, ?_⟩
  cases π with
  | nil =>
    obtain rfl : u = r := Option.some.inj hset
    exact iteT' ⟨_, rfl, q _ c g1 (hU.same g1)⟩
  | cons z ρ =>
    refine iteF' ?_
    have hp1 := g1 _ _ hp
    have r1 := hR.same g1
    refine ⟨_, rfl, p, _, 0, _, rfl, rfl, SqT.of hp1, atI_nat (j := 0) rfl, ?_⟩
    simp only [setAt] at hset
    cases hk : kidAt t z with
    | none => rw [hk] at hset; cases hset
    | some sk =>
      rw [hk] at hset
      simp only [Option.bind_some] at hset
      cases hs' : setAt sk ρ u with
      | none => rw [hs'] at hset; cases hset
      | some s' =>
        rw [hs'] at hset
        obtain rfl : putKid t z s' = r := Option.some.inj hset
        have hk' := hk
        unfold kidAt at hk'
        by_cases h0 : 0 ≤ z
        · rw [if_pos h0] at hk'
          obtain ⟨xs, cs, ex, ed, rk, h3, hnil⟩ := r1.kids
          obtain ⟨cj, hcj, rcj⟩ := rk.get hk'
          have hxj : xs[z.toNat + 1]? = some (V.ref cj) := by
            have y : (xs.drop 1)[z.toNat]? = some (V.ref cj) := by rw [ed, List.getElem?_map, hcj]; rfl
            rw [List.getElem?_drop, Nat.add_comm] at y
            exact y
          have hlt := (List.getElem?_eq_some_iff.mp hxj).1
          have ez : z + 1 = ((z.toNat + 1 : Nat) : Int) := by omega
          have ez2 : z + 2 = ((z.toNat + 2 : Nat) : Int) := by omega
          refine ⟨_, rfl, _, rfl, _, _, rfl, rfl, z + 1, rfl, ?_⟩
          rw [ez]
          refine pre_sl ex hlt fun a1 H2 g2 e2 => ?_
          have gx2 := g1.trans g2
          refine ⟨_, rfl, _, rfl, _, _, rfl, rfl, a, _, _, _, rfl, rfl, SqT.of (g2 _ _ ex), at_of (j := z.toNat + 1) ez hxj, ?_⟩
          refine ⟨_, rfl, 1, rfl, tail_sl (g2 _ _ hp1) fun p3 H4 g4 e4 => ?_⟩
          refine ⟨_, rfl, cj, p3, c, sk, u, s', ρ, rfl, (rcj.same g2).same g4, e4, (hU.same gx2).same g4, by simp only [List.length_cons] at hn; omega, by simp only [List.length_cons] at h60; omega, hs', fun H5 b g5 rb => ?_⟩
          refine ⟨(by show 1 ≤ sizeLine; exact small (by decide)), fun t1 ht1 => ?_⟩
          have g6 := same_new (o := .tup [.ref b]) ht1
          have g26 := (g4.trans g5).trans g6
          refine cat_tup (g26 _ _ e2) upd_same (by rw [List.length_take]; show _ + 1 ≤ 1000; omega) fun a2 H7 g7 e7 => ?_
          have g17 := (g2.trans g26).trans g7
          refine ⟨_, rfl, _, rfl, _, _, rfl, rfl, z + 2, rfl, ?_⟩
          rw [ez2]
          refine post_sl (g17 _ _ ex) (by omega) (by omega) fun a3 H8 g8 e8 => ?_
          refine cat_tup (g8 _ _ e7) e8 (by rw [List.length_append, List.length_take, List.length_drop]; show _ + 1 + _ ≤ 1000; omega) fun a4 H9 g9 e9 => ?_
          refine q H9 a4 (((g1.trans g17).trans g8).trans g9) ?_
          have gA := (g17.trans g8).trans g9
          have rb9 : Rep H9 b s' := ((((rb.same g6).same g7).same g8).same g9)
          cases r1 with
          | nil h => simp [kids] at hk'
          | word h r' =>
            rw [ex] at h
            cases h
            have hz : z.toNat = 0 := by
              simp at hlt
              omega
            rw [hz] at e9
            exact .word e9 rb9
          | @tree _ c1 c2 l t1' t2' h q1 q2 =>
            rw [ex] at h
            cases h
            simp only [List.length_cons, List.length_nil] at hlt
            by_cases hz : z = 0
            · subst hz
              have := Rep.tree (H := H9) (a := a4) (c := b) (d := c2) (l := l) (t := s') (u := t2') e9 rb9 (q2.same gA)
              show Rep H9 a4 (if (0 : Int) = 0 then Sh.tree l s' t2' else Sh.tree l t1' s')
              rw [if_pos rfl]
              exact this
            · have hz1 : z.toNat = 1 := by omega
              rw [hz1] at e9
              show Rep H9 a4 (if z = 0 then Sh.tree l s' t2' else Sh.tree l t1' s')
              rw [if_neg hz]
              exact .tree e9 (q1.same gA) rb9
        · rw [if_neg h0] at hk'
          cases hk'
end
end K01
set_option Elab.async false
set_option linter.all false
set_option maxRecDepth 100000
set_option maxHeartbeats 2000000
namespace K01
open PySem PySem.Spec PyProof.Rows L2
def wayR : Sh → List Int → Option (List Sh)
  | t, [] => some [t]
  | t, k :: π => (kidAt t k).bind fun s => (wayR s π).map fun W => t :: W
theorem foldl_wayR : ∀ (π : List Int) (A : List Sh) (t : Sh), π.foldl stepW (some (A ++ [t])) = (wayR t π).map fun W => A ++ W
  | [], A, t => rfl
  | k :: π, A, t => by
    have e : stepW (some (A ++ [t])) k = (kidAt t k).map fun u => A ++ [t] ++ [u] := by
      unfold stepW
      simp
    rw [List.foldl_cons, e]
    cases h : kidAt t k with
    | none => simp [wayR, h, stepW_none]
    | some u =>
      rw [Option.map_some, foldl_wayR π (A ++ [t]) u]
      cases h2 : wayR u π <;> simp [wayR, h, h2]
theorem wayF_R (t : Sh) (π : List Int) : wayF t π = wayR t π := by
  have := foldl_wayR π [] t
  unfold wayF
  rw [show (some [t] : Option (List Sh)) = some ([] ++ [t]) from rfl, this]
  cases wayR t π <;> rfl
theorem wayR_len : ∀ {π : List Int} {t : Sh} {W : List Sh}, wayR t π = some W → W.length = π.length + 1
  | [], t, W, h => by obtain rfl : [t] = W := Option.some.inj h; rfl
  | k :: π, t, W, h => by
    simp only [wayR] at h
    cases h1 : kidAt t k with
    | none => rw [h1] at h; cases h
    | some s =>
      rw [h1] at h
      simp only [Option.bind_some] at h
      cases h2 : wayR s π with
      | none => rw [h2] at h; cases h
      | some W' =>
        rw [h2] at h
        obtain rfl := Option.some.inj h
        rw [List.length_cons, List.length_cons, wayR_len h2]
theorem wayR_get : ∀ {π : List Int} {t : Sh} {W : List Sh} {i : Nat} {k : Int}, wayR t π = some W → π[i]? = some k → ∃ s s', W[i]? = some s ∧ W[i + 1]? = some s' ∧ kidAt s k = some s'
  | [], _, _, _, _, _, h => by simp at h
  | k' :: π, t, W, i, k, h, hk => by
    simp only [wayR] at h
    cases h1 : kidAt t k' with
    | none => rw [h1] at h; cases h
    | some s =>
      rw [h1] at h
      simp only [Option.bind_some] at h
      cases h2 : wayR s π with
      | none => rw [h2] at h; cases h
      | some W' =>
        rw [h2] at h
        obtain rfl := Option.some.inj h
        cases i with
        | zero =>
          obtain rfl : k' = k := by simpa using hk
          refine ⟨t, s, rfl, ?_, h1⟩
          cases π with
          | nil => obtain rfl := Option.some.inj h2; rfl
          | cons k2 π =>
            simp only [wayR] at h2
            cases h3 : kidAt s k2 with
            | none => rw [h3] at h2; cases h2
            | some s3 =>
              rw [h3] at h2
              simp only [Option.bind_some] at h2
              cases h4 : wayR s3 π with
              | none => rw [h4] at h2; cases h2
              | some W4 => rw [h4] at h2; obtain rfl := Option.some.inj h2; rfl
        | succ i =>
          obtain ⟨x, y, e1, e2, e3⟩ := wayR_get (i := i) h2 (by simpa using hk)
          exact ⟨x, y, by simpa using e1, by simpa using e2, e3⟩
theorem wayR_set : ∀ {π : List Int} {t : Sh} {W : List Sh} (u : Sh), wayR t π = some W → ∃ r, setAt t π u = some r
  | [], t, W, u, _ => ⟨u, rfl⟩
  | k :: π, t, W, u, h => by
    simp only [wayR] at h
    cases h1 : kidAt t k with
    | none => rw [h1] at h; cases h
    | some s =>
      rw [h1] at h
      simp only [Option.bind_some] at h
      cases h2 : wayR s π with
      | none => rw [h2] at h; cases h
      | some W' =>
        obtain ⟨r, hr⟩ := wayR_set u h2
        exact ⟨putKid t k r, by simp [setAt, h1, hr]⟩
theorem wayR_last {π : List Int} {t : Sh} {W : List Sh} (h : wayR t π = some W) : W[0]? = some t := by
  cases π with
  | nil => obtain rfl := Option.some.inj h; rfl
  | cons k π =>
    simp only [wayR] at h
    cases h1 : kidAt t k with
    | none => rw [h1] at h; cases h
    | some s =>
      rw [h1] at h
      simp only [Option.bind_some] at h
      cases h2 : wayR s π with
      | none => rw [h2] at h; cases h
      | some W' => rw [h2] at h; obtain rfl := Option.some.inj h; rfl
theorem setAt_step {s s' u R : Sh} {k : Int} {ρ : List Int} (h : kidAt s k = some s') (h2 : setAt s' ρ u = some R) : setAt s (k :: ρ) u = some (putKid s k R) := by simp [setAt, h, h2]
/-- another child at one place, in the heap -/
theorem put_rep {H9 : Hp} {a4 b c : Addr} {sh s r : Sh} {xs : List V} {k : Int} (hr : Rep H9 c sh) (ex : H9 c = some (.tup xs)) (hk : kidAt sh k = some s) (rb : Rep H9 b r) (e9 : H9 a4 = some (.tup (xs.take (k.toNat + 1) ++ [V.ref b] ++ xs.drop (k.toNat + 2)))) : Rep H9 a4 (putKid sh k r) := by
  unfold kidAt at hk
  by_cases h0 : 0 ≤ k
  · rw [if_pos h0] at hk
    cases hr with
    | nil h => simp [kids] at hk
    | word h r' =>
      rw [ex] at h
      cases h
      have hz : k.toNat = 0 := by
        have := (List.getElem?_eq_some_iff.mp hk).1
        simp [kids] at this
        omega
      rw [hz] at e9
      exact .word e9 rb
    | @tree _ c1 c2 l t1' t2' h q1 q2 =>
      rw [ex] at h
      cases h
      have hlt := (List.getElem?_eq_some_iff.mp hk).1
      simp only [kids, List.length_cons, List.length_nil] at hlt
      by_cases hz : k = 0
      · subst hz
        have := Rep.tree (H := H9) (a := a4) (c := b) (d := c2) (l := l) (t := r) (u := t2') e9 rb q2
        show Rep H9 a4 (if (0 : Int) = 0 then Sh.tree l r t2' else Sh.tree l t1' r)
        rw [if_pos rfl]
        exact this
      · have hz1 : k.toNat = 1 := by omega
        rw [hz1] at e9
        show Rep H9 a4 (if k = 0 then Sh.tree l r t2' else Sh.tree l t1' r)
        rw [if_neg hz]
        exact .tree e9 q1 rb
  · rw [if_neg h0] at hk
    cases hk
abbrev sWithP : Stmt := top 18
abbrev sLTryW : Stmt := top 37
theorem scWithP : FnScope ["shape", "path", "new", "way", "step", "old"] ["shape", "path", "new"] (defScope sWithP) := ⟨rfl, rfl, rfl, by decide +kernel, rfl, by decide +kernel, by decide +kernel⟩
theorem scLTryW : FnScope ["shape", "path", "new"] ["shape", "path", "new"] (defScope sLTryW) := ⟨rfl, rfl, rfl, by decide +kernel, rfl, by decide +kernel, by decide +kernel⟩
def spWithP (C : Addr) : Sp := fun vs H Q E => ∃ (a p c : Addr) (t u : Sh) (π : List Int), vs = [.ref a, .ref p, .ref c] ∧ Rep H a t ∧ H p = some (.tup (π.map V.int)) ∧ Rep H c u ∧ π.length ≤ 60 ∧
  (∀ W r, wayF t π = some W → setAt t π u = some r → ∀ H' b, Same H H' → Rep H' b r → Q (.ref b) H') ∧ (wayF t π = none → ∀ H', Same H H' → E (.ref C) none H')
section
variable {P : Program} {w : World} {K : PySem.W.Frag} {mg : Str → Option Value} {base : Heap}
theorem ok_withp {f g C : Addr} {fd gd : FuncData} {k : Nat} (F : Fun K "with_part" "with_part" sWithP f fd) (G : FnOk P w K mg base (L2.CX P w) k g gd ["shape", "path"] (spWay C)) (bG : Binds K gd ["shape", "path"] []) (kG : PySem.W.keepIn K (.ref g) = true) (mG : mg "_way_to" = some (.ref g))
    (mr : mg "reversed" = none) (ml : mg "list" = none) (mz : mg "zip" = none) : FnOk P w K mg base (L2.CX P w) (k + 1) f fd ["shape", "path", "new"] (spWithP C) := by
  refine F.okX scWithP (fun vs H Q E h => ?_) (fun cdv A outer s H vs Q E hr h => ?_)
  · obtain ⟨a, p, c, t, u, π, rfl, _⟩ := h
    rfl
  obtain ⟨a, p, c, t, u, π, rfl, hR, hp, hU, hz, q, qE⟩ := h
  refine ⟨_, pss_cons (ps_set (i := 3) scWithP.nd rfl (Or.inl rfl) (pe_call G hr (by rfl) mG kG bG .nil (passes_call (takes_of rfl rfl rfl rfl) fun _ _ _ _ h => h) (pa_cons (pv 0) (pa_cons (pv 1) pa_nil))))
    (pss_cons (ps_for (passes_of rfl) rfl (pi_reversed (by rfl) mr (pa_cons (pe_listZip rfl (by rfl) ml (by rfl) mz (pa_cons (pv 1) (pa_cons (pv 3) pa_nil))) pa_nil)) (pg_tup (by rfl) (pgs_cons (pg_name (i := 4) scWithP.nd rfl (.inl rfl)) (pgs_cons (pg_name (i := 5) scWithP.nd rfl (.inl rfl)) pgs_nil)))
      (pss_one (ps_set (i := 2) scWithP.nd rfl (Or.inl rfl) (pe_op op_catA (pe_op op_catA (pe_slice sl_tupA (pv 5) po_none (po_some (pe_op op_add (pv 4) pe_int))) (pe_tup (pa_cons (pv 2) pa_nil))) (pe_slice sl_tupA (pv 5) (po_some (pe_op op_add (pv 4) pe_int)) po_none)))))
    (pss_one (ps_ret (pv 2)))), ?_⟩
  refine ⟨_, rfl, _, rfl, a, p, t, π, rfl, hR, hp, by omega, fun W eW H1 wl as g1 el rl => ?_, fun h H1 g1 => qE h H1 g1⟩
  have eR := eW
  rw [wayF_R] at eR
  have hWl := wayR_len eR
  obtain ⟨r0, hr0⟩ := wayR_set u eR
  have hasl : as.length = π.length + 1 := by rw [rl.len, hWl]
  refine ⟨_, rfl, _, rfl, p, wl, π.map V.int, as.map V.ref, rfl, SqT.of (g1 _ _ hp), SqL.of el, by rw [List.length_map, List.length_map]; omega, fun H2 ql Ts g2 _ eQ hTl hTs => ?_⟩
  rw [List.length_map] at hTl
  have g12 : Same H H2 := fun b o e => g2 _ _ (g1 _ _ e)
  refine ⟨ql, Ts.map V.ref, rfl, SqL.of eQ, ?_⟩
  have hnl : (Ts.map V.ref).length = π.length := by rw [List.length_map, hTl]
  have eQn := eQ
  refine for_rev (xs := Ts.map V.ref) (fun i σ H3 => ∃ (y4 y5 : Option V) (b : Addr) (R : Sh), σ = [some (.ref a), some (.ref p), some (.ref b), some (.ref wl), y4, y5] ∧ Same H2 H3 ∧ Rep H3 b R ∧ ∃ Wi, W[π.length - i]? = some Wi ∧ setAt Wi (π.drop (π.length - i)) u = some R)
    ⟨none, none, c, u, rfl, Same.refl _, hU.same g12, ?_⟩ (fun i σ H3 hi P1 => ?_) (fun i x σ H3 hi hx P1 => ?_) fun σ H3 P1 => ?_
  · obtain ⟨Wn, hWn⟩ : ∃ Wn, W[π.length]? = some Wn := ⟨_, List.getElem?_eq_getElem (by omega)⟩
    refine ⟨Wn, hWn, ?_⟩
    rw [Nat.sub_zero, List.drop_length]
    rfl
  · obtain ⟨_, _, _, _, _, g3, _⟩ := P1
    exact SqL.of (g3 _ _ eQ)
  · obtain ⟨y4, y5, b, R, rfl, g3, rb, Wi, hWi, hset⟩ := P1
    rw [hnl] at hi hx
    rw [List.getElem?_map] at hx
    obtain ⟨T, hT, rfl⟩ : ∃ T, Ts[π.length - 1 - i]? = some T ∧ x = V.ref T := by
      cases z : Ts[π.length - 1 - i]? with
      | none => rw [z] at hx; cases hx
      | some c => rw [z] at hx; exact ⟨c, rfl, (Option.some.inj hx).symm⟩
    obtain ⟨vx, vy, hvx, hvy, eT⟩ := hTs _ _ hT
    have hj : π.length - 1 - i < π.length := by omega
    generalize hjj : π.length - 1 - i = j at *
    have hk : π[j]? = some π[j] := List.getElem?_eq_getElem hj
    rw [List.getElem?_map, hk] at hvx
    obtain rfl : V.int π[j] = vx := Option.some.inj hvx
    obtain ⟨sh, s', e1, e2, e3⟩ := wayR_get eR hk
    have hji : π.length - i = j + 1 := by omega
    rw [hji] at hWi hset
    rw [e2] at hWi
    obtain rfl := Option.some.inj hWi
    obtain ⟨co, hco, rco⟩ := rl.get e1
    rw [List.getElem?_map, hco] at hvy
    obtain rfl : V.ref co = vy := Option.some.inj hvy
    have g13 : Same H1 H3 := fun b o e => g3 _ _ (g2 _ _ e)
    have rco3 := rco.same g13
    have eT3 := g3 _ _ eT
    have hdrop : π.drop j = π[j] :: π.drop (j + 1) := List.drop_eq_getElem_cons hj
    have hset2 := setAt_step (k := π[j]) e3 hset
    rw [← hdrop] at hset2
    obtain ⟨xs, cs, ex, ed, rk, h3, hnil⟩ := rco3.kids
    have e3' := e3
    unfold kidAt at e3'
    have h0 : 0 ≤ π[j] := by
      by_cases h0 : 0 ≤ π[j]
      · exact h0
      · rw [if_neg h0] at e3'; cases e3'
    rw [if_pos h0] at e3'
    have hxl : π[j].toNat + 1 < xs.length := by
      have y := congrArg List.length ed
      rw [List.length_drop, List.length_map, rk.len] at y
      have := (List.getElem?_eq_some_iff.mp e3').1
      omega
    refine ⟨T, _, rfl, SqT.of eT3, rfl, _, _, rfl, _, _, rfl, rfl, ?_⟩
    have ez : π[j] + 1 = ((π[j].toNat + 1 : Nat) : Int) := by omega
    have ez2 : π[j] + 2 = ((π[j].toNat + 2 : Nat) : Int) := by omega
    refine ⟨_, rfl, _, rfl, _, _, rfl, rfl, π[j] + 1, rfl, ?_⟩
    rw [ez]
    refine pre_sl ex hxl fun a1 H4 g4 e4 => ?_
    refine ⟨_, rfl, (by show 1 ≤ sizeLine; exact small (by decide)), fun t1 ht1 => ?_⟩
    have g5 := same_new (o := .tup [.ref b]) ht1
    refine cat_tup (g5 _ _ e4) upd_same (by rw [List.length_take]; show _ + 1 ≤ 1000; omega) fun a2 H6 g6 e6 => ?_
    have g36 := (g4.trans g5).trans g6
    refine ⟨_, rfl, _, rfl, _, _, rfl, rfl, π[j] + 2, rfl, ?_⟩
    rw [ez2]
    refine post_sl (g36 _ _ ex) (by omega) (by omega) fun a3 H7 g7 e7 => ?_
    refine cat_tup (g7 _ _ e6) e7 (by rw [List.length_append, List.length_take, List.length_drop]; show _ + 1 + _ ≤ 1000; omega) fun a4 H8 g8 e8 => ?_
    have g38 := (g36.trans g7).trans g8
    refine ⟨_, _, a4, _, rfl, g3.trans g38, put_rep (rco3.same g38) (g38 _ _ ex) e3 (rb.same g38) e8, sh, ?_, ?_⟩
    · rw [show π.length - (i + 1) = j by omega]
      exact e1
    · rw [show π.length - (i + 1) = j by omega]
      exact hset2
  · obtain ⟨y4, y5, b, R, rfl, g3, rb, Wi, hWi, hset⟩ := P1
    rw [hnl, Nat.sub_self] at hWi hset
    rw [wayR_last eR] at hWi
    obtain rfl := Option.some.inj hWi
    rw [List.drop_zero] at hset
    exact ⟨_, rfl, q W R eW hset _ b (g12.trans g3) rb⟩
theorem ok_ltryw {f g C : Addr} {fd gd : FuncData} {k : Nat} (F : Fun K "_law_try_with" "_law_try_with" sLTryW f fd) (T : ExcT K mg "NoSuchElement" C) (G : FnOk P w K mg base (L2.CX P w) k g gd ["shape", "path", "new"] (spWithP C)) (bG : Binds K gd ["shape", "path", "new"] []) (kG : PySem.W.keepIn K (.ref g) = true) (mG : mg "with_part" = some (.ref g)) :
    FnOk P w K mg base CX0 (k + 1) f fd ["shape", "path", "new"] (fun vs H Q _ => ∃ (a p c : Addr) (t u : Sh) (π : List Int), vs = [.ref a, .ref p, .ref c] ∧ Rep H a t ∧ H p = some (.tup (π.map V.int)) ∧ Rep H c u ∧ π.length ≤ 60 ∧
  (∀ W r, wayF t π = some W → setAt t π u = some r → ∀ H' b, Same H H' → Rep H' b r → Q (.ref b) H') ∧ (wayF t π = none → ∀ H', Same H H' → Q (.str "none") H')) := by
  refine F.ok scLTryW (fun vs H Q E h => ?_) (fun cdv A outer s H vs Q E hr h => ?_)
  · obtain ⟨a, p, c, t, u, π, rfl, _⟩ := h
    rfl
  obtain ⟨a, p, c, t, u, π, rfl, hR, hp, hU, hz, q, qN⟩ := h
  refine ⟨_, pss_one (ps_try_only (tb := fun W => tRet (tCallS (spWithP C) (WE W) (tCons (tVar 0) (tCons (tVar 1) (tCons (tVar 2) tNil))))) (ts := fun _ _ _ => tRet (tC (.str "none"))) (Wout := fun _ _ _ _ => False) rfl rfl ⟨rfl, by decide, Or.inl T.g⟩ L2.takes0
      (fun W pn xe tk _ => pss_one (ps_ret (by exact (pe_callS G hr rfl mG kG bG (fun σ => passAt tk σ) (by exact (pa_cons (pv 0) (pa_cons (pv 1) (pa_cons (pv 2) pa_nil))))))))
      (fun a oe cls d pn hz hf => pss_one (ps_ret (by exact pe_str)))), ?_⟩
  refine ⟨_, rfl, _, rfl, _, rfl, a, p, c, t, u, π, rfl, hR, hp, hU, hz, fun W r eW hs H1 c g1 rc => q W r eW hs H1 c g1 rc, fun h H1 g1 => ⟨true, T.e, fun _ a' ha' => qN h H1 g1, fun z => nomatch z⟩⟩
end
end K01
set_option Elab.async false
set_option linter.all false
set_option maxRecDepth 100000
set_option maxHeartbeats 2000000
namespace K01
open PySem PySem.Spec PyProof.Rows L2 XS
/-! ### _law_read -/
def tIsE (K : PySem.W.Frag) (a : Addr) (cls : Value) (d : Option Addr) (S : Addr) (i : Nat) : TE := fun σ H Q => ∃ D, cls = .ref D ∧ d = none ∧ ExcC K D ∧ tVar i σ H fun x H1 => rIsE K D a [x, .ref S] H1 Q
abbrev sLRead : Stmt := top 35
theorem scLRead : FnScope ["kind", "text", "e"] ["kind", "text"] (defScope sLRead) := ⟨rfl, rfl, rfl, by decide +kernel, rfl, by decide +kernel, by decide +kernel⟩
def spLRead : Sp := fun vs H Q _ => ∃ (k : Addr) (z : Str) (two : Bool) (ls : List Str), vs = [.ref k, .str z] ∧ KindAt H k two ls ∧ z.length ≤ 100 ∧
  (∀ s, runR two ls z z.length = [s] → text s = z → ∀ H' a, Same H H' → Rep H' a s → Q (.ref a) H') ∧ ((∀ s, runR two ls z z.length = [s] → text s ≠ z) → ∀ H', Same H H' → Q (.str "none") H')
section
variable {P : Program} {w : World} {K : PySem.W.Frag} {mg : Str → Option Value} {base : Heap}
theorem ok_lread {f g C S : Addr} {fd gd : FuncData} {k : Nat} (F : Fun K "_law_read" "_law_read" sLRead f fd) (T : ExcT K mg "InvalidShape" C) (TC : ExcC K C) (mS : mg "SayError" = some (.ref S)) (kS : PySem.W.kitOne K (.ref C) (.ref S) = some true)
    (G : FnOk P w K mg base (L2.CX P w) k g gd ["kind", "text"] (spRead C)) (bG : Binds K gd ["kind", "text"] []) (kG : PySem.W.keepIn K (.ref g) = true) (mG : mg "read_shape" = some (.ref g)) (mi : mg "isinstance" = none) : FnOk P w K mg base CX0 (k + 1) f fd ["kind", "text"] spLRead := by
  refine F.ok scLRead (fun vs H Q E h => ?_) (fun cdv A outer s H vs Q E hr h => ?_)
  · obtain ⟨a, z, two, ls, rfl, _⟩ := h
    rfl
  obtain ⟨a, z, two, ls, rfl, hK, hz, q, qN⟩ := h
  refine ⟨_, pss_one (ps_try_as (i := 2) (tb := fun W => tRet (tCallS (spRead C) (WE W) (tCons (tVar 0) (tCons (tVar 1) tNil)))) (ts := fun a cls d => tRet (tIf (tB (tIsE K a cls d S 2)) (tC (.str "none")) (tC (.str "wrong")))) (Wout := fun _ _ _ _ => False) rfl rfl scLRead.nd rfl rfl ⟨rfl, by decide, Or.inl T.g⟩ L2.takes0
      (fun W pn xe tk _ => pss_one (ps_ret (by exact (pe_callS G hr rfl mG kG bG (fun σ => passAt tk σ) (by exact (pa_cons (pv 0) (pa_cons (pv 1) pa_nil)))))))
      (fun a oe cls d pn hz hf => pss_one (ps_ret (pe_ifExp (pt_val ⟨fun pins s σ H Q I h => by
        obtain ⟨D, rfl, rfl, C', h⟩ := h
        exact (pe_callB (call_isE C' hz hf) (by rfl) mi (by decide +kernel) (pa_cons (pv 2) (pa_cons (pe_glob (by rfl) mS (v := .ref S) rfl) pa_nil))).run pins s σ H Q I h⟩) (by exact pe_str) (by exact pe_str))))), ?_⟩
  refine ⟨_, rfl, _, rfl, a, z, two, ls, rfl, hK, hz, fun s' hs ht H1 c g1 rc => q s' hs ht H1 c g1 rc, fun h H1 g1 => ⟨true, T.e, fun _ a' ha' => ?_, fun z => nomatch z⟩⟩
  exact ⟨C, rfl, rfl, TC, _, rfl, _, .ref S, true, rfl, fun u hu => hu, kS, true, rfl, iteT' (qN h H1 g1)⟩
end
end K01
set_option Elab.async false
set_option linter.all false
set_option maxRecDepth 100000
set_option maxHeartbeats 2000000
namespace K01
open PySem PySem.Spec PyProof.Rows L2 XS
/-! ### wrong kinds -/
def B3 : List (Int × List Str) := [(3, ["a"]), (0, ["a"]), (1, []), (2, ["b", "a"]), (1, ["a", "a"]), (1, ["ab"]), (2, ["A"]), (1, ["a", "b", "c", "d"])]
def KBad (H : Hp) (k : Addr) : Prop := ∃ z ls lab, H k = some (.tup [.int z, .ref lab]) ∧ H lab = some (.tup (ls.map V.str)) ∧ (z, ls) ∈ B3
def isL (x : Str) : Bool := decide (x.length = 1) && (!decide (x.cps.toList < (Str.ofString "a").cps.toList)) && (!decide ((Str.ofString "z").cps.toList < x.cps.toList))
def spLetterB : Sp := fun vs H Q _ => ∃ x : Str, vs = [.str x] ∧ x.length ≤ 100 ∧ Q (.bl (isL x)) H
def spIsKindB : Sp := fun vs H Q _ => ∃ k : Addr, vs = [.ref k] ∧ KBad H k ∧ ∀ H', Same H H' → Q (.bl false) H'
section
variable {P : Program} {w : World} {K : PySem.W.Frag} {mg : Str → Option Value} {base : Heap}
theorem fn_or {CX : CXT} {f : Addr} {fd : FuncData} {k : Nat} {ps : List Str} {s1 s2 : Sp} (h1 : FnOk P w K mg base CX k f fd ps s1) (h2 : FnOk P w K mg base CX k f fd ps s2) : FnOk P w K mg base CX k f fd ps (fun vs H Q E => s1 vs H Q E ∨ s2 vs H Q E) :=
  ⟨fun vs H Q E h => h.elim (h1.len vs H Q E) (h2.len vs H Q E), fun A outer s H args us vs Q E hr e b v h => h.elim (h1.run A outer s H args us vs Q E hr e b v) (h2.run A outer s H args us vs Q E hr e b v)⟩
theorem ok_letterB {f : Addr} {fd : FuncData} {k : Nat} (F : Fun K "_is_letter" "_is_letter" sLetter f fd) (mi : mg "isinstance" = none) (ms : mg "str" = none) (ml : mg "len" = none) : FnOk P w K mg base CX0 (k + 1) f fd ["value"] spLetterB := by
  refine F.ok scLetter (fun vs H Q E h => ?_) (fun cdv A outer s H vs Q E hr h => ?_)
  · obtain ⟨z, rfl, _⟩ := h
    rfl
  obtain ⟨x, rfl, hx, q⟩ := h
  refine ⟨_, pss_one (ps_ret (pe_and (pe_isi (pv 0) mi ms rfl) (pe_and (pe_cmpR op_eq (pe_callB call_len_str (by rfl) ml PySem.boot_len (pa_cons (pv 0) pa_nil)) pe_int (nomark _)) (pe_one (pe_chain op_le_str op_le_str pe_str (pv 0) pe_str))))), ?_⟩
  refine ⟨_, rfl, isi (ty_str x) (by decide +kernel : kitB "str" "str" = some true) ⟨_, rfl, iteT' ?_⟩⟩
  refine ⟨_, rfl, x, rfl, small (by omega), rfl, ?_⟩
  unfold isL at q
  by_cases h1 : x.length = 1
  · rw [h1] at q ⊢
    refine ⟨_, rfl, ifT rfl ?_⟩
    refine ⟨_, rfl, _, _, rfl, rfl, _, rfl, ?_⟩
    rw [decide_eq_true rfl, Bool.true_and] at q
    cases h2 : (!decide (x.cps.toList < (Str.ofString "a").cps.toList)) with
    | true =>
      rw [h2, Bool.true_and] at q
      exact iteT' ⟨_, _, rfl, rfl, q⟩
    | false =>
      rw [h2, Bool.false_and] at q
      exact iteF' q
  · rw [decide_eq_false h1, Bool.false_and, Bool.false_and] at q
    exact ⟨_, rfl, ifF (fun z => h1 (by injection z with z; omega)) q⟩
theorem sorted4 {ys : List Str} (p : ys.Perm (once (["b", "a"] : List Str))) (s : sortedS ys = true) : ys = (["a", "b"] : List Str) := by
  have hm : ∀ y ∈ ys, y ∈ (["b", "a"] : List Str) := fun y hy => once_mem.mp (p.mem_iff.mp hy)
  have hn : ys.Nodup := p.nodup_iff.mpr (once_nodup _ [] List.nodup_nil)
  have hl : ys.length = (once (["b", "a"] : List Str)).length := p.length_eq
  rw [show (once (["b", "a"] : List Str)).length = 2 by decide +kernel] at hl
  match ys, hl with
  | [x, y], _ =>
    have h1 := hm x (by simp)
    have h2 := hm y (by simp)
    simp only [List.mem_cons, List.not_mem_nil, or_false] at h1 h2
    rcases h1 with rfl | rfl <;> rcases h2 with rfl | rfl <;> first | rfl | exact absurd s (by decide +kernel) | exact absurd hn (by decide +kernel)
theorem sorted5 {ys : List Str} (p : ys.Perm (once (["a", "a"] : List Str))) : ys = (["a"] : List Str) := by
  have hm : ∀ y ∈ ys, y ∈ (["a", "a"] : List Str) := fun y hy => once_mem.mp (p.mem_iff.mp hy)
  have hl : ys.length = (once (["a", "a"] : List Str)).length := p.length_eq
  rw [show (once (["a", "a"] : List Str)).length = 1 by decide +kernel] at hl
  match ys, hl with
  | [x], _ =>
    have h1 := hm x (by simp)
    simp only [List.mem_cons, List.not_mem_nil, or_false, or_self] at h1
    rw [h1]
theorem ok_isKindB {f g l : Addr} {fd gd ld : FuncData} {k : Nat} (F : Fun K "is_kind" "is_kind" sIsKind f fd) (GW : FnOk P w K mg base CX0 k g gd ["value"] spWhole) (bW : Binds K gd ["value"] []) (kW : PySem.W.keepIn K (.ref g) = true) (mW : mg "is_whole" = some (.ref g))
    (GL : FnOk P w K mg base CX0 k l ld ["value"] spLetterB) (bL : Binds K ld ["value"] []) (kL : PySem.W.keepIn K (.ref l) = true) (mL : mg "_is_letter" = some (.ref l)) (mi : mg "isinstance" = none) (mt : mg "tuple" = none) (ml : mg "len" = none) (ma : mg "all" = none) (mli : mg "list" = none) (mso : mg "sorted" = none) (mse : mg "set" = none)
    {tM : Tok} (mM : mg "MOST_LABELS" = some (.int 3 tM)) : FnOk P w K mg base CX0 (k + 1) f fd ["value"] spIsKindB := by
  refine F.ok scIsKind (fun vs H Q E h => ?_) (fun cdv A outer s H vs Q E hr h => ?_)
  · obtain ⟨a, rfl, _⟩ := h
    rfl
  obtain ⟨a, rfl, hK, q⟩ := h
  refine ⟨_, pss_cons (ps_if (PW.pt (pw_or (pt_not (pt_val (pe_isi (pv 0) mi mt rfl))) (pw_or1 (pt_cmpR op_ne (pe_callB call_len_seq (by rfl) ml PySem.boot_len (pa_cons (pv 0) pa_nil)) pe_int (nomark _))))) pss_never pss_nil)
    (pss_cons (ps_asg (pv 0) (pg_tup (by rfl) (pgs_cons (pg_name (i := 1) scIsKind.nd rfl (.inl rfl)) (pgs_cons (pg_name (i := 2) scIsKind.nd rfl (.inl rfl)) pgs_nil))))
    (pss_cons (ps_if (PW.pt (pw_or (pt_not (pt_val (pe_call GW hr (by rfl) mW kW bW .nil pass0 (pa_cons (pv 1) pa_nil)))) (pw_or1 (pt_cmpR op_notIn_seq (pv 1) (pe_tup (pa_cons pe_int (pa_cons pe_int pa_nil))) (by with_unfolding_all rfl))))) (pss_one (ps_ret pe_bl)) pss_nil)
    (pss_cons (ps_if (PW.pt (pw_or (pt_not (pt_val (pe_isi (pv 2) mi mt rfl))) (pw_or1 (pt_not (pt_chain op_le op_le pe_int (pe_callB call_len_seq (by rfl) ml PySem.boot_len (pa_cons (pv 2) pa_nil)) (pe_glob (by rfl) mM (v := .int 3) ⟨_, rfl⟩)))))) (pss_one (ps_ret pe_bl)) pss_nil)
    (pss_cons (ps_if (pt_not (pt_val (pe_callB (cr_all rfl) (by rfl) ma (by decide +kernel) (pa_cons (pe_lc (own := [("label", 3)]) (g := gName 3) (tt := tYes) (te := tCall spLetterB [] E0 (tCons (tVar 3) tNil)) rfl scIsKind.nd (pi_tup (pv 2))
        (blkOk_by (own := [("label", 3)]) (N := ["value", "ways", "labels", "label"]) (sc := defScope sIsKind) (by decide +kernel)) (fun _ _ _ _ _ => pg_name (i := 3) scIsKind.nd rfl (Or.inl rfl)) (fun _ _ _ _ _ => pts_nil)
        (fun _ _ _ _ _ => pe_call GL hr (by rfl) mL kL bL .nil pass0 (pa_cons (pv 3) pa_nil))) pa_nil)))) (pss_one (ps_ret pe_bl)) pss_nil)
    (pss_one (ps_ret (pe_cmpR (op_eqD hr.units) (pe_callTy call_list_of (by rfl) mli (by decide +kernel) (pa_cons (pv 2) pa_nil)) (pe_callB (cr_sortedX rfl) (by rfl) mso (by decide +kernel) (pa_cons (pe_callTy (cr_setX rfl) (by rfl) mse (by decide +kernel) (pa_cons (pv 2) pa_nil)) pa_nil)) (nomark _)))))))), ?_⟩
  obtain ⟨z, ls, lab, ek, el, hb⟩ := hK
  refine ⟨_, rfl, isi (ty_tup (SqT.of ek)) (by decide +kernel : kitB "tuple" "tuple" = some true) ⟨_, rfl, iteNT ?_⟩⟩
  refine ⟨_, rfl, a, _, rfl, .inr (SqT.of ek), rfl, _, rfl, ?_⟩
  refine iteNS rfl ?_
  refine ⟨_, rfl, a, _, rfl, SqT.of ek, rfl, _, _, rfl, _, _, rfl, rfl, ?_⟩
  refine ⟨_, rfl, _, rfl, true, rfl, iteNT ?_⟩
  refine ⟨_, rfl, (by show 2 ≤ sizeLine; exact small (by decide)), fun t ht => ?_⟩
  have g1 : Same H (upd H t (.tup [.int 1, .int 2])) := same_new ht
  refine ⟨t, [.int 1, .int 2], rfl, .inr (SqT.of upd_same), rfl, rfl, _, rfl, ?_⟩
  have el1 := g1 _ _ el
  have hlen9 : ls.length ≤ 9 := by
    simp only [B3, List.mem_cons, List.not_mem_nil, or_false, Prod.mk.injEq] at hb
    rcases hb with ⟨_, rfl⟩ | ⟨_, rfl⟩ | ⟨_, rfl⟩ | ⟨_, rfl⟩ | ⟨_, rfl⟩ | ⟨_, rfl⟩ | ⟨_, rfl⟩ | ⟨_, rfl⟩ <;> decide +kernel
  by_cases hz : z = 1 ∨ z = 2
  case neg =>
    refine ite2 (fun _ => q _ g1) (fun c => absurd ?_ c)
    show (!inV (.int z) [.int 1, .int 2]) = true
    rw [not_or] at hz
    simp only [inV, List.any_cons, List.any_nil, eqV]
    have h1 : ¬ (1 : Int) = z := fun e => hz.1 e.symm
    have h2 : ¬ (2 : Int) = z := fun e => hz.2 e.symm
    simp [h1, h2, hz.1, hz.2]
  refine ite2 (fun c => absurd c ?_) (fun _ => ?_)
  · show ¬ (!inV (.int z) [.int 1, .int 2]) = true
    rcases hz with rfl | rfl <;> decide
  refine ⟨_, rfl, isi (ty_tup (SqT.of el1)) (by decide +kernel : kitB "tuple" "tuple" = some true) ⟨_, rfl, iteNT ?_⟩⟩
  refine ⟨_, rfl, lab, _, rfl, .inr (SqT.of el1), _, _, rfl, rfl, decide (1 ≤ (ls.map V.str).length), congrArg V.bl (decide_eq_decide.mpr (by omega)), ?_⟩
  refine ite2 (fun c1 => ?_) (fun c1 => ⟨false, rfl, iteNF (q _ g1)⟩)
  refine ⟨_, _, rfl, rfl, decide ((ls.map V.str).length ≤ 3), congrArg V.bl (decide_eq_decide.mpr (by omega)), ?_⟩
  by_cases c2 : ¬ (ls.map V.str).length ≤ 3
  · rw [decide_eq_false c2]
    exact iteNF (q _ g1)
  have c2 : (ls.map V.str).length ≤ 3 := Decidable.not_not.mp c2
  have c1 := of_decide_eq_true c1
  rw [decide_eq_true c2]
  refine iteNT ?_
  rw [List.length_map] at c1 c2
  have hx100 : ∀ x ∈ ls, x.length ≤ 100 := by
    simp only [B3, List.mem_cons, List.not_mem_nil, or_false, Prod.mk.injEq] at hb
    rcases hb with ⟨_, rfl⟩ | ⟨_, rfl⟩ | ⟨_, rfl⟩ | ⟨_, rfl⟩ | ⟨_, rfl⟩ | ⟨_, rfl⟩ | ⟨_, rfl⟩ | ⟨_, rfl⟩ <;> decide +kernel
  refine ⟨_, rfl, lab, rfl, ⟨_, SqT.of el1⟩, fun C hC => ?_⟩
  have g2 : Same H (upd (upd H t (.tup [.int 1, .int 2])) C (.lst [])) := g1.trans (same_new hC)
  have hCn : H C = none := g1.free hC
  refine lc_tup (xs := ls.map V.str) (fun i H2 => Same H H2 ∧ H2 C = some (.lst (((ls.take i).map isL).map V.bl))) ⟨g2, upd_same⟩ (fun i H2 hi p => SqT.of (p.1 _ _ el)) (fun i x H2 hx p => ?_) fun H2 p => ?_
  · have hi := (List.getElem?_eq_some_iff.mp hx).1
    rw [List.length_map] at hi
    rw [List.getElem?_map, List.getElem?_eq_getElem hi] at hx
    obtain rfl : V.str ls[i] = x := Option.some.inj hx
    refine ⟨rfl, yes_turn ?_⟩
    refine ⟨_, rfl, _, rfl, hx100 _ (List.getElem_mem hi), _, p.2, (by rw [List.length_map, List.length_map, List.length_take]; exact small' (by omega)), same_fresh hCn p.1, ?_⟩
    rw [upd_same, List.take_succ_eq_append_getElem hi, List.map_append, List.map_append]
    rfl
  · have e2 := p.2
    rw [List.length_map, List.take_length] at e2
    refine ⟨C, _, rfl, SqL.of e2, (ls.map isL).all id, ?_, ?_⟩
    · exact congrArg V.bl (by simp)
    cases hall : (ls.map isL).all id with
    | false => exact iteNF (q _ p.1)
    | true =>
      refine iteNT ?_
      have hls : ls = (["b", "a"] : List Str) ∨ ls = (["a", "a"] : List Str) := by
        simp only [B3, List.mem_cons, List.not_mem_nil, or_false, Prod.mk.injEq] at hb
        rcases hb with ⟨rfl, rfl⟩ | ⟨rfl, rfl⟩ | ⟨rfl, rfl⟩ | ⟨rfl, rfl⟩ | ⟨rfl, rfl⟩ | ⟨rfl, rfl⟩ | ⟨rfl, rfl⟩ | ⟨rfl, rfl⟩
        · exact absurd hz (by decide)
        · exact absurd hz (by decide)
        · exact absurd c1 (by decide)
        · exact .inl rfl
        · exact .inr rfl
        · exact absurd hall (by decide +kernel)
        · exact absurd hall (by decide +kernel)
        · exact absurd c2 (by decide)
      refine ⟨_, rfl, lab, _, rfl, .inr (SqT.of (p.1 _ _ el)), fun L hL => ?_⟩
      have g3 : Same H (upd H2 L (.lst (ls.map V.str))) := p.1.trans (same_new hL)
      refine ⟨_, rfl, lab, ls, rfl, SqT.of (g3 _ _ el), by omega, fun S hS => ?_⟩
      have hLS : L ≠ S := ne_of_none upd_same hS
      refine ⟨S, _, rfl, upd_same, ?_, fun ys p2 hp hs hn => ?_⟩
      · rcases hls with rfl | rfl <;> decide +kernel
      have hLp : L ≠ p2 := ne_of_none (show _ = some (HO.lst (ls.map V.str)) by rw [upd_ne hLS, upd_same]) hn
      have dp : ∀ (H3 : Hp) (xs : List Str), DpAll K H3 (xs.map V.str) (xs.map PyData.str) := fun H3 xs => by
        induction xs with
        | nil => exact .nil
        | cons x r ih => exact .cons (.str x) ih
      have hys : ys = (["a", "b"] : List Str) ∧ ls = (["b", "a"] : List Str) ∨ ys = (["a"] : List Str) ∧ ls = (["a", "a"] : List Str) := by
        rcases hls with h | h
        · exact .inl ⟨sorted4 (by rw [← h]; exact hp) hs, h⟩
        · exact .inr ⟨sorted5 (by rw [← h]; exact hp), h⟩
      refine ⟨.list (ls.map PyData.str), .list (ys.map PyData.str), .lst (SqL.of (by rw [upd_ne hLp, upd_ne hLS, upd_same])) (dp _ _), .lst (SqL.of upd_same) (dp _ _), ?_, ?_, ?_⟩
      · rcases hls with rfl | rfl <;> decide +kernel
      · rcases hys with ⟨rfl, _⟩ | ⟨rfl, _⟩ <;> decide +kernel
      · have e : PyData.eqv (.list (ls.map PyData.str)) (.list (ys.map PyData.str)) = false := by
          rcases hys with ⟨rfl, rfl⟩ | ⟨rfl, rfl⟩ <;> decide +kernel
        rw [e]
        exact q _ ((g3.trans (same_new hS)).trans (same_new hn))
/-- check_kind over good and wrong kinds -/
def spCheckX (C : Addr) : Sp := fun vs H Q E => ∃ k : Addr, vs = [.ref k] ∧ ((∃ two ls, KindAt H k two ls ∧ ∀ H', Same H H' → Q .non H') ∨ (KBad H k ∧ ∀ H', Same H H' → E (.ref C) none H'))
theorem ok_checkX {f g C : Addr} {fd gd : FuncData} {k : Nat} (F : Fun K "check_kind" "check_kind" sCheck f fd) (T : ExcT K mg "InvalidKind" C) (G : FnOk P w K mg base CX0 k g gd ["value"] (fun vs H Q E => spIsKind vs H Q E ∨ spIsKindB vs H Q E)) (bG : Binds K gd ["value"] []) (kG : PySem.W.keepIn K (.ref g) = true) (mG : mg "is_kind" = some (.ref g)) : FnOk P w K mg base (L2.CX P w) (k + 1) f fd ["kind"] (spCheckX C) := by
  refine F.okX scCheck (fun vs H Q E h => ?_) (fun cdv A outer s H vs Q E hr h => ?_)
  · obtain ⟨a, rfl, _⟩ := h
    rfl
  obtain ⟨a, rfl, h⟩ := h
  refine ⟨_, pss_one (ps_if (pt_not (pt_val (pe_call G hr (by rfl) mG kG bG .nil pass0 (pa_cons (pv 0) pa_nil)))) (pss_one (ps_raise rfl (takes_of rfl rfl rfl rfl) (pmk_own PySem.F.excBase_ValueError T.x T.g T.k (raises_own T.b T.t) rfl))) pss_nil), ?_⟩
  rcases h with ⟨two, ls, hK, q⟩ | ⟨hB, qE⟩
  · exact ⟨_, rfl, .inl ⟨a, two, ls, rfl, hK, fun H' g1 => ⟨true, rfl, iteNT (q H' g1)⟩⟩⟩
  · exact ⟨_, rfl, .inr ⟨a, rfl, hB, fun H' g1 => ⟨false, rfl, iteNF (qE H' g1)⟩⟩⟩
abbrev sLKR : Stmt := top 41
theorem scLKR : FnScope ["kind"] ["kind"] (defScope sLKR) := ⟨rfl, rfl, rfl, by decide +kernel, rfl, by decide +kernel, by decide +kernel⟩
def spLKR : Sp := fun vs H Q _ => ∃ k : Addr, vs = [.ref k] ∧ ((∃ two ls, KindAt H k two ls ∧ ∀ H', Same H H' → Q (.bl true) H') ∨ (KBad H k ∧ ∀ H', Same H H' → Q (.bl false) H'))
theorem ok_lkr {f g C : Addr} {fd gd : FuncData} {k : Nat} (F : Fun K "_law_kind_right" "_law_kind_right" sLKR f fd) (T : ExcT K mg "InvalidKind" C) (G : FnOk P w K mg base (L2.CX P w) k g gd ["kind"] (spCheckX C)) (bG : Binds K gd ["kind"] []) (kG : PySem.W.keepIn K (.ref g) = true) (mG : mg "check_kind" = some (.ref g)) : FnOk P w K mg base CX0 (k + 1) f fd ["kind"] spLKR := by
  refine F.ok scLKR (fun vs H Q E h => ?_) (fun cdv A outer s H vs Q E hr h => ?_)
  · obtain ⟨a, rfl, _⟩ := h
    rfl
  obtain ⟨a, rfl, h⟩ := h
  refine ⟨_, pss_cons (ps_try_only (tb := fun W => tDrop (tCallS (spCheckX C) (WE W) (tCons (tVar 0) tNil))) (ts := fun _ _ _ => tRet (tC (.bl false))) (Wout := fun _ _ _ _ => False) rfl rfl ⟨rfl, by decide, Or.inl T.g⟩ L2.takes0
      (fun W pn xe tk _ => pss_one (ps_expr (by exact (pe_callS G hr rfl mG kG bG (fun σ => passAt tk σ) (by exact (pa_cons (pv 0) pa_nil))))))
      (fun a oe cls d pn hz hf => pss_one (ps_ret (by exact pe_bl)))) (pss_one (ps_ret pe_bl)), ?_⟩
  rcases h with ⟨two, ls, hK, q⟩ | ⟨hB, qE⟩
  · exact ⟨_, rfl, a, rfl, .inl ⟨two, ls, hK, fun H' g1 => q H' g1⟩⟩
  · exact ⟨_, rfl, a, rfl, .inr ⟨hB, fun H1 g1 => ⟨true, T.e, fun _ a' ha' => qE H1 g1, fun z => nomatch z⟩⟩⟩
end
end K01
set_option Elab.async false
set_option linter.all false
set_option maxRecDepth 100000
set_option maxHeartbeats 2000000
namespace K01
open PySem PySem.Spec PyProof.Rows L2
/-! ### _law_is -/
def GoodV : Vl → Prop
  | .str x => PyData.strOk x = true
  | .emp => True
  | .one l x => PyData.strOk l = true ∧ GoodV x
  | .two l x y => PyData.strOk l = true ∧ GoodV x ∧ GoodV y
  | .oth => False
def dV : Vl → PyData
  | .str x => .str x
  | .emp => .tuple []
  | .one l x => .tuple [.str l, dV x]
  | .two l x y => .tuple [.str l, dV x, dV y]
  | .oth => .none
theorem dV_lay : ∀ x : Vl, GoodV x → (dV x).canLay0 = true
  | .str x, h => h
  | .emp, _ => rfl
  | .one l x, h => by simp [dV, PyData.canLay0, PyData.canLayAll0, dV_lay x h.2, h.1]
  | .two l x y, h => by simp [dV, PyData.canLay0, PyData.canLayAll0, dV_lay x h.2.1, dV_lay y h.2.2, h.1]
theorem dV_depth : ∀ x : Vl, (dV x).depth ≤ x.size + 1
  | .str x => by simp [dV, PyData.depth]
  | .emp => by simp [dV, PyData.depth, PyData.depthAll]
  | .one l x => by
    have := dV_depth x
    simp only [dV, PyData.depth, PyData.depthAll, Vl.size]
    omega
  | .two l x y => by
    have := dV_depth x
    have := dV_depth y
    simp only [dV, PyData.depth, PyData.depthAll, Vl.size]
    omega
  | .oth => by simp [dV, PyData.depth]
theorem dV_shaped {x : Vl} (h : GoodV x) (hz : x.size ≤ 60) : SeqAt.shaped (dV x) = true := by
  unfold SeqAt.shaped
  rw [dV_lay x h, Bool.true_and]
  have := dV_depth x
  exact decide_eq_true (by omega)
theorem RepV.data {K : PySem.W.Frag} {H : Hp} {v : V} {x : Vl} (r : RepV H v x) (h : GoodV x) : Dp K H v (dV x) := by
  induction r with
  | str x => exact .str x
  | emp h' => exact .tup (SqT.of h') .nil
  | one h' _ ih => exact .tup (SqT.of h') (.cons (.str _) (.cons (ih h.2) .nil))
  | two h' _ _ i1 i2 => exact .tup (SqT.of h') (.cons (.str _) (.cons (i1 h.2.1) (.cons (i2 h.2.2) .nil)))
  | oth => exact h.elim
theorem shaped_list {ds : List PyData} (h : ∀ d ∈ ds, d.canLay0 = true ∧ d.depth ≤ 55) : SeqAt.shaped (.list ds) = true := by
  have h1 : PyData.canLayAll0 ds = true := by
    induction ds with
    | nil => rfl
    | cons d r ih => simp [PyData.canLayAll0, (h d (by simp)).1, ih fun q m => h q (by simp [m])]
  have h2 : PyData.depthAll ds ≤ 56 := by
    induction ds with
    | nil => simp [PyData.depthAll]
    | cons d r ih =>
      have a := (h d (by simp)).2
      have b := ih (fun q m => h q (by simp [m])) (by simp [PyData.canLayAll0] at h1; exact h1.2)
      simp only [PyData.depthAll]
      omega
  unfold SeqAt.shaped
  simp only [PyData.canLay0, h1, PyData.depth, Bool.true_and]
  exact decide_eq_true (by omega)
abbrev sLIs : Stmt := top 40
theorem scLIs : FnScope ["kind", "value", "one"] ["kind", "value"] (defScope sLIs) := ⟨rfl, rfl, rfl, by decide +kernel, rfl, by decide +kernel, by decide +kernel⟩
def spLIs (n : Nat) : Sp := fun vs H Q _ => ∃ (k : Addr) (v : V) (two : Bool) (ls : List Str) (x : Vl), vs = [.ref k, v] ∧ KindAt H k two ls ∧ RepV H v x ∧ x.size < n ∧ x.size ≤ 50 ∧
  (GoodV x ∨ x = .oth ∧ ∃ d, (∀ K H', Same H H' → Dp K H' v d) ∧ SeqAt.shaped d = true ∧ PyData.eqv d (.tuple []) = false) ∧ ∀ H', Same H H' → Q (.bl (isSh two ls x)) H'
theorem Dp.same {K : PySem.W.Frag} {H H' : Hp} (g : Same H H') {v : V} {x : Vl} (r : RepV H v x) (h : GoodV x) : Dp K H' v (dV x) := (r.keepT (KeepT.of g)).data h
theorem no_lis {P : Program} {w : World} {K : PySem.W.Frag} {mg : Str → Option Value} {base : Heap} {f : Addr} {fd : FuncData} {m : Nat} : FnOk P w K mg base CX0 m f fd ["kind", "value"] (spLIs 0) := by
  have no : ∀ vs H Q E, ¬ spLIs 0 vs H Q E := fun vs H Q E h => by
    obtain ⟨k, v, two, ls, x, _, _, _, h, _⟩ := h
    exact absurd h (Nat.not_lt_zero _)
  exact ⟨fun vs H Q E h => absurd h (no vs H Q E), fun A outer s H args us vs Q E _ _ _ _ h => absurd h (no vs H Q E)⟩
section
variable {P : Program} {w : World} {K : PySem.W.Frag} {mg : Str → Option Value} {base : Heap}
theorem ok_lis {f : Addr} {fd : FuncData} {n : Nat} (F : Fun K "_law_is" "_law_is" sLIs f fd) (S : FnOk P w K mg base CX0 n f fd ["kind", "value"] (spLIs n)) (bS : Binds K fd ["kind", "value"] []) (mS : mg "_law_is" = some (.ref f)) (ml : mg "len" = none) (mi : mg "isinstance" = none) (mt : mg "tuple" = none) :
    FnOk P w K mg base CX0 (n + 1) f fd ["kind", "value"] (spLIs (n + 1)) := by
  refine F.ok scLIs (fun vs H Q E h => ?_) (fun cdv A outer s H vs Q E hr h => ?_)
  · obtain ⟨a, v, two, ls, x, rfl, _⟩ := h
    rfl
  obtain ⟨a, v, two, ls, x, rfl, hK, hR, hn, h50, hg, q⟩ := h
  refine ⟨_, pss_cons (ps_if (pt_cmpR (op_eqD hr.units) (pv 1) (pe_tup pa_nil) (nomark _)) (pss_one (ps_ret pe_bl)) pss_nil)
    (pss_cons (ps_if (PW.pt (pw_or (pt_not (pt_val (pe_isi (pv 1) mi mt rfl))) (pw_or (pt_cmpR op_ne (pe_callB call_len_seq (by rfl) ml PySem.boot_len (pa_cons (pv 1) pa_nil)) (pe_op op_add (pe_ix ix_tup (pv 0) pe_int (fun _ _ => rfl)) pe_int) (nomark _))
        (pw_or1 (pt_cmpR op_notIn_seq (pe_ix ix_tup (pv 1) pe_int (fun _ _ => rfl)) (pe_ix ix_tup (pv 0) pe_int (fun _ _ => rfl)) (by with_unfolding_all rfl)))))) (pss_one (ps_ret pe_bl)) pss_nil)
    (pss_one (ps_ret (pe_cmpR (op_eqD hr.units) (pe_lc (own := [("one", 2)]) (g := gName 2) (tt := tNot (tB (tCall (spLIs n) [] E0 (tCons (tVar 0) (tCons (tVar 2) tNil))))) (te := tVar 2) rfl scLIs.nd (pi_tup (pe_slice sl_tupA (pv 1) (po_some pe_int) po_none))
        (blkOk_by (own := [("one", 2)]) (N := ["kind", "value", "one"]) (sc := defScope sLIs) (by decide +kernel)) (fun _ _ _ _ _ => pg_name (i := 2) scLIs.nd rfl (Or.inl rfl))
        (fun _ _ _ _ _ => pts_one (pt_not (pt_val (pe_call S hr (by rfl) mS F.kp bS .nil pass0 (pa_cons (pv 0) (pa_cons (pv 2) pa_nil)))))) (fun _ _ _ _ _ => pv 2)) (pe_lst pa_nil) (nomark _))))), ?_⟩
  refine ⟨_, rfl, (by show 0 ≤ sizeLine; exact Nat.zero_le _), fun p hp => ?_⟩
  have g1 := same_new (o := .tup []) hp
  obtain ⟨lab, ek, el, hls⟩ := id hK
  have k1 := KeepT.of g1
  have R1 := hR.keepT k1
  have hR1 := R1
  have main : (∃ (c : Addr) (l : Str) (vs' : List V) (xs' : List Vl), v = .ref c ∧ (upd H p (.tup [])) c = some (.tup (.str l :: vs')) ∧ RepVs (upd H p (.tup [])) vs' xs' ∧ (∀ y ∈ xs', GoodV y ∧ y.size < x.size) ∧ dV x = .tuple (.str l :: xs'.map dV) ∧
      isSh two ls x = (decide (vs'.length = if two then 2 else 1) && decide (l ∈ ls) && xs'.all (isSh two ls)) ∧ ((V.str l :: vs').length ≤ 3 ∧ 1 ≤ vs'.length) ∧ GoodV x) ∨ (∀ l y, x ≠ .one l y) ∧ (∀ l y z, x ≠ .two l y z) := by
    cases R1 with
    | str z => exact .inr ⟨(fun _ _ h => by cases h), (fun _ _ _ h => by cases h)⟩
    | emp h => exact .inr ⟨(fun _ _ h => by cases h), (fun _ _ _ h => by cases h)⟩
    | oth h => exact .inr ⟨(fun _ _ h => by cases h), (fun _ _ _ h => by cases h)⟩
    | @one c l v1 x1 h r1 =>
      rcases hg with hg | ⟨hg, _⟩
      case inr => cases hg
      refine .inl ⟨c, l, [v1], [x1], rfl, h, ⟨r1, True.intro⟩, (fun y hy => ?_), rfl, ?_, ⟨by show 2 ≤ 3; decide, by show 1 ≤ 1; decide⟩, hg⟩
      · rw [List.mem_singleton.mp hy]
        exact ⟨hg.2, by simp only [Vl.size]; omega⟩
      · cases two <;> simp [isSh]
    | @two c l v1 v2 x1 x2 h r1 r2 =>
      rcases hg with hg | ⟨hg, _⟩
      case inr => cases hg
      refine .inl ⟨c, l, [v1, v2], [x1, x2], rfl, h, ⟨r1, r2, True.intro⟩, (fun y hy => ?_), rfl, ?_, ⟨by show 3 ≤ 3; decide, by show 1 ≤ 2; decide⟩, hg⟩
      · simp only [List.mem_cons, List.not_mem_nil, or_false] at hy
        rcases hy with rfl | rfl
        · exact ⟨hg.2.1, by simp only [Vl.size]; omega⟩
        · exact ⟨hg.2.2, by simp only [Vl.size]; omega⟩
      · cases two <;> simp [isSh, Bool.and_assoc]
  rcases main with ⟨c, l, vs', xs', rfl, h, rv, hxs, hdv, his, ⟨h3, h1⟩, hgx⟩ | ⟨no1, no2⟩
  · refine ⟨dV x, .tuple [], hR1.data hgx, .tup (SqT.of upd_same) .nil, dV_shaped hgx (by omega), rfl, false, by rw [hdv]; rfl, iteF' ?_⟩
    refine ⟨_, rfl, isi (ty_tup (SqT.of h)) (by decide +kernel : kitB "tuple" "tuple" = some true) ⟨_, rfl, iteNT ?_⟩⟩
    have ek1 := g1 _ _ ek
    have el1 := g1 _ _ el
    refine ⟨_, rfl, c, _, rfl, .inr (SqT.of h), _, rfl, a, _, 0, _, rfl, rfl, SqT.of ek1, rfl, _, _, rfl, rfl, rfl, _, rfl, ?_⟩
    have bad : isSh two ls x = false → Q (.bl false) (upd H p (.tup [])) := fun e => by
      have := q _ g1
      rwa [e] at this
    by_cases hw : vs'.length = if two then 2 else 1
    case neg =>
      refine ite2 (fun _ => iteT' (bad (by rw [his, decide_eq_false hw]; rfl))) (fun c9 => absurd ?_ c9)
      refine (Bool.not_eq_true' _).mpr (decide_eq_false fun z => hw ?_)
      injection z with z
      rw [List.length_cons] at z
      cases two
      · have z' : ((vs'.length + 1 : Nat) : Int) = 1 + 1 := z
        show vs'.length = 1
        omega
      · have z' : ((vs'.length + 1 : Nat) : Int) = 2 + 1 := z
        show vs'.length = 2
        omega
    refine ite2 (fun c9 => absurd c9 ?_) (fun _ => ?_)
    · rw [decide_eq_true ?_]
      · decide
      · rw [List.length_cons, hw]
        cases two <;> rfl
    refine ⟨_, rfl, c, _, 0, _, rfl, rfl, SqT.of h, atI_nat (j := 0) rfl, _, rfl, a, _, 1, _, rfl, rfl, SqT.of ek1, rfl, lab, _, rfl, .inr (SqT.of el1), rfl, flat_strs ls, !decide (l ∈ ls), by show V.bl (!inV _ _) = _; rw [inV_str], ?_⟩
    by_cases hl : l ∈ ls
    case neg =>
      rw [decide_eq_false hl]
      exact iteT' (bad (by rw [his, decide_eq_false hl, Bool.and_false, Bool.false_and]))
    rw [decide_eq_true hl]
    refine iteF' ?_
    have his' : isSh two ls x = xs'.all (isSh two ls) := by rw [his, decide_eq_true hw, decide_eq_true hl]; rfl
    have h3' : vs'.length ≤ 2 := by
      rw [List.length_cons] at h3
      omega
    refine ⟨_, rfl, 1, rfl, tail_sl h fun p1 H4 g4 e4 => ?_⟩
    have e4' : H4 p1 = some (.tup vs') := e4
    refine ⟨p1, rfl, ⟨_, SqT.of e4'⟩, fun D hD => ?_⟩
    have g5 := (g1.trans g4).trans (same_new (o := .lst []) hD)
    have hD0 : H D = none := (g1.trans g4).free hD
    have hDb : (upd H p (.tup [])) D = none := g4.free hD
    have lenx := rv.len
    refine lc_tup (xs := vs') (fun i H2 => Same H4 H2 ∧ ∃ (ks : List (V × Vl)), (∀ q ∈ ks, RepV H2 q.1 q.2 ∧ GoodV q.2 ∧ q.2.size ≤ 50) ∧ H2 D = some (.lst (ks.map (·.1))) ∧ ks.length ≤ i ∧ (ks = [] ↔ (xs'.take i).all (isSh two ls) = true)) ⟨same_new hD, [], fun q hq => by simp at hq, upd_same, Nat.le_refl _, by simp⟩ (fun i H2 hi pv => SqT.of (pv.1 _ _ e4')) (fun i y H2 hx pv => ?_) fun H2 pv => ?_
    · obtain ⟨gk, ks, hks, eD, hkl, hiff⟩ := pv
      have hi := (List.getElem?_eq_some_iff.mp hx).1
      have hix : i < xs'.length := by omega
      have ry : ∃ xx, xs'[i]? = some xx ∧ RepV (upd H p (.tup [])) y xx := by
        have : ∀ (vs : List V) (xs : List Vl) (i : Nat), RepVs (upd H p (.tup [])) vs xs → vs[i]? = some y → ∃ xx, xs[i]? = some xx ∧ RepV (upd H p (.tup [])) y xx := by
          intro vs
          induction vs with
          | nil => intro xs i _ e; simp at e
          | cons v0 r ih =>
            intro xs i hr e
            cases xs with
            | nil => exact hr.elim
            | cons x0 rx =>
              cases i with
              | zero =>
                obtain rfl : v0 = y := by simpa using e
                exact ⟨x0, rfl, hr.1⟩
              | succ i => exact ih rx i hr.2 (by simpa using e)
        exact this vs' xs' i rv hx
      obtain ⟨xx, hxx, rxx⟩ := ry
      have hgs := hxs xx (List.mem_of_getElem? hxx)
      have gk1 := g4.trans gk
      have rxx2 := rxx.keepT (KeepT.of gk1)
      have tk : xs'.take (i + 1) = xs'.take i ++ [xx] := by rw [List.take_add_one, hxx]; rfl
      refine ⟨rfl, ?_⟩
      refine ⟨_, rfl, _, rfl, a, y, two, ls, xx, rfl, hK.same (g1.trans gk1), rxx2, by omega, by omega, .inl hgs.1, fun H3 g3 => ⟨_, rfl, ?_⟩⟩
      have keep3 : ∀ q ∈ ks, RepV H3 q.1 q.2 ∧ GoodV q.2 ∧ q.2.size ≤ 50 := fun q hq => ⟨(hks q hq).1.keepT (KeepT.of g3), (hks q hq).2⟩
      cases hb : isSh two ls xx with
      | true =>
        refine iteNT ⟨gk.trans g3, ks, keep3, g3 _ _ eD, by omega, ?_⟩
        rw [tk, List.all_append, hiff]
        simp [hb]
      | false =>
        refine iteNF ⟨_, rfl, _, g3 _ _ eD, small' (by rw [List.length_map]; omega), same_fresh (by have := hD; exact this) (gk.trans g3), ks ++ [(y, xx)], ?_, ?_, by rw [List.length_append, List.length_singleton]; omega, ?_⟩
        · intro q hq
          have kk := KeepT.put (g3 _ _ eD) (ks.map (·.1) ++ [y])
          rcases List.mem_append.mp hq with hq | hq
          · exact ⟨(keep3 q hq).1.keepT kk, (keep3 q hq).2⟩
          · rw [List.mem_singleton.mp hq]
            exact ⟨(rxx2.keepT (KeepT.of g3)).keepT kk, hgs.1, by show xx.size ≤ 50; omega⟩
        · rw [upd_same, List.map_append]
          rfl
        · rw [tk, List.all_append]
          simp [hb]
    · obtain ⟨gk, ks, hks, eD, hkl, hiff⟩ := pv
      rw [lenx, List.take_length] at hiff
      refine ⟨(by show 0 ≤ sizeLine; exact Nat.zero_le _), fun L hL => ?_⟩
      have gL := same_new (o := .lst []) hL
      have dall : ∀ (ks : List (V × Vl)), (∀ q ∈ ks, RepV H2 q.1 q.2 ∧ GoodV q.2 ∧ q.2.size ≤ 50) → DpAll K (upd H2 L (.lst [])) (ks.map (·.1)) (ks.map fun q => dV q.2) := by
        intro ks
        induction ks with
        | nil => intro _; exact .nil
        | cons q r ih => intro h; exact .cons (((h q (by simp)).1.keepT (KeepT.of gL)).data (h q (by simp)).2.1) (ih fun z m => h z (by simp [m]))
      refine ⟨.list (ks.map fun (q : V × Vl) => dV q.2), .list [], .lst (SqL.of (gL _ _ eD)) (dall ks hks), .lst (SqL.of upd_same) .nil, shaped_list (fun d hd => ?_), rfl, ?_⟩
      · obtain ⟨z, hz, rfl⟩ := List.mem_map.mp hd
        have := dV_depth z.2
        exact ⟨dV_lay _ (hks z hz).2.1, by have := (hks z hz).2.2; omega⟩
      · have gAll : Same H (upd H2 L (.lst [])) := (((g1.trans g4).trans gk).trans gL)
        have fin := q _ gAll
        rw [his'] at fin
        cases ks with
        | nil =>
          rw [hiff.mp rfl] at fin
          exact fin
        | cons z r =>
          have : xs'.all (isSh two ls) = false := by
            cases e : xs'.all (isSh two ls) with
            | false => rfl
            | true => exact absurd (hiff.mpr e) (by simp)
          rw [this] at fin
          exact fin
  cases R1 with
  | str z =>
    rcases hg with hg | ⟨hg, _⟩
    case inr => cases hg
    refine ⟨.str z, .tuple [], .str z, .tup (SqT.of upd_same) .nil, dV_shaped (x := .str z) hg (by omega), rfl, false, rfl, iteF' ?_⟩
    refine ⟨_, rfl, isi (ty_str z) (by decide +kernel : kitB "str" "tuple" = some false) ⟨_, rfl, iteNF ?_⟩⟩
    exact q _ g1
  | @emp c h =>
    refine ⟨.tuple [], .tuple [], .tup (SqT.of h) .nil, .tup (SqT.of upd_same) .nil, rfl, rfl, true, rfl, iteT' ?_⟩
    exact q _ g1
  | @oth c ws h h0 h2 h3 h9 =>
    rcases hg with hg | ⟨_, d, hd, hsd, hed⟩
    · exact hg.elim
    refine ⟨d, .tuple [], hd K _ g1, .tup (SqT.of upd_same) .nil, hsd, rfl, _, rfl, ?_⟩
    rw [hed]
    refine iteF' ?_
    refine ⟨_, rfl, isi (ty_tup (SqT.of h)) (by decide +kernel : kitB "tuple" "tuple" = some true) ⟨_, rfl, iteNT ?_⟩⟩
    refine ⟨_, rfl, c, _, rfl, .inr (SqT.of h), _, rfl, a, _, 0, _, rfl, rfl, SqT.of (g1 _ _ ek), rfl, _, _, rfl, rfl, rfl, _, rfl, ?_⟩
    refine ite2 (fun _ => iteT' (q _ g1)) (fun c9 => ?_)
    refine absurd ?_ c9
    cases two
    · exact (Bool.not_eq_true' _).mpr (decide_eq_false fun z => by injection z with z; omega)
    · exact (Bool.not_eq_true' _).mpr (decide_eq_false fun z => by injection z with z; omega)
  | @one c l v1 x1 h r1 => exact absurd rfl (no1 _ _)
  | @two c l v1 v2 x1 x2 h r1 r2 => exact absurd rfl (no2 _ _ _)
end
end K01
set_option Elab.async false
set_option linter.all false
set_option maxRecDepth 100000
set_option maxHeartbeats 2000000
namespace K01
open PySem PySem.Spec PyProof.Rows L2
/-! ### paths in their order -/
theorem pths_map (k : List Int) : ∀ (t : Sh) (π : List Int), pths (k ++ π) t = (pths π t).map fun r => k ++ r
  | .nil, π => rfl
  | .word l t, π => by
    have := pths_map k t (π ++ [0])
    simp only [pths, List.append_assoc, this, List.map_cons]
  | .tree l a b, π => by
    have h1 := pths_map k a (π ++ [0])
    have h2 := pths_map k b (π ++ [1])
    simp only [pths, List.append_assoc, h1, h2, List.map_cons, List.map_append]
theorem pths_cons (k : Int) (t : Sh) : pths [k] t = (pths [] t).map fun r => k :: r := pths_map [k] t []
theorem lex_cons_self (k : Int) (a b : List Int) : HT.lexLt (k :: a) (k :: b) = HT.lexLt a b := by rw [HT.lexLt_cons, if_pos rfl]
theorem pths_asc : ∀ t : Sh, (pths [] t).Pairwise fun a b => HT.lexLt a b = true
  | .nil => List.Pairwise.nil
  | .word l t => by
    show ([] :: pths [0] t).Pairwise _
    rw [pths_cons]
    refine List.Pairwise.cons (fun r hr => ?_) (List.pairwise_map.mpr ((pths_asc t).imp fun h => by rw [lex_cons_self]; exact h))
    obtain ⟨q, _, rfl⟩ := List.mem_map.mp hr
    rfl
  | .tree l a b => by
    show ([] :: (pths [0] a ++ pths [1] b)).Pairwise _
    rw [pths_cons, pths_cons]
    refine List.Pairwise.cons (fun r hr => ?_) (List.pairwise_append.mpr ⟨List.pairwise_map.mpr ((pths_asc a).imp fun h => by rw [lex_cons_self]; exact h), List.pairwise_map.mpr ((pths_asc b).imp fun h => by rw [lex_cons_self]; exact h), fun x hx y hy => ?_⟩)
    · rcases List.mem_append.mp hr with hr | hr
      · obtain ⟨q, _, rfl⟩ := List.mem_map.mp hr
        rfl
      · obtain ⟨q, _, rfl⟩ := List.mem_map.mp hr
        rfl
    · obtain ⟨q, _, rfl⟩ := List.mem_map.mp hx
      obtain ⟨q', _, rfl⟩ := List.mem_map.mp hy
      rw [HT.lexLt_cons, if_neg (by decide)]
      decide
/-! ### where a path leads -/
def lastR : Sh → List Int → Option Sh
  | t, [] => some t
  | t, k :: π => (kidAt t k).bind fun s => lastR s π
theorem way_last : ∀ {π : List Int} {t s : Sh}, lastR t π = some s → ∃ W, wayR t π = some (W ++ [s])
  | [], t, s, h => by obtain rfl : t = s := Option.some.inj h; exact ⟨[], rfl⟩
  | k :: π, t, s, h => by
    simp only [lastR] at h
    cases h1 : kidAt t k with
    | none => rw [h1] at h; cases h
    | some u =>
      rw [h1] at h
      obtain ⟨W, hW⟩ := way_last (t := u) h
      exact ⟨t :: W, by simp [wayR, h1, hW]⟩
theorem way_none : ∀ {π : List Int} {t : Sh}, lastR t π = none → wayR t π = none
  | [], t, h => by cases h
  | k :: π, t, h => by
    simp only [lastR] at h
    cases h1 : kidAt t k with
    | none => simp [wayR, h1]
    | some u =>
      rw [h1] at h
      have := way_none (t := u) h
      simp [wayR, h1, this]
theorem lastR_snoc (k : Int) : ∀ (ρ : List Int) (t : Sh), lastR t (ρ ++ [k]) = (lastR t ρ).bind fun s => kidAt s k
  | [], t => by
    show (kidAt t k).bind (fun s => some s) = kidAt t k
    cases kidAt t k <;> rfl
  | j :: ρ, t => by
    simp only [List.cons_append, lastR]
    cases h1 : kidAt t j with
    | none => rfl
    | some u => exact lastR_snoc k ρ u
theorem mem_map_cons {k j : Int} {r : List Int} {L : List (List Int)} : (k :: r) ∈ L.map (fun q => j :: q) ↔ k = j ∧ r ∈ L := by
  rw [List.mem_map]
  constructor
  · rintro ⟨q, hq, e⟩
    injection e with e1 e2
    exact ⟨e1.symm, e2 ▸ hq⟩
  · rintro ⟨rfl, h⟩
    exact ⟨r, h, rfl⟩
theorem mem_pths : ∀ (t : Sh) (π : List Int), π ∈ pths [] t ↔ ∃ s, lastR t π = some s ∧ s ≠ .nil
  | .nil, π => by
    cases π with
    | nil => simp [pths, lastR]
    | cons k r => simp [pths, lastR, kidAt, kids]
  | .word l t, π => by
    show π ∈ [] :: pths [0] t ↔ _
    rw [pths_cons]
    cases π with
    | nil => simp [lastR]
    | cons k r =>
      rw [List.mem_cons, mem_map_cons, mem_pths t r]
      simp only [lastR, kidAt, kids]
      by_cases h0 : 0 ≤ k
      · rw [if_pos h0]
        by_cases hk : k = 0
        · subst hk
          simp
        · have : [t][k.toNat]? = none := List.getElem?_eq_none (by simp; omega)
          rw [this]
          simp [hk]
      · rw [if_neg h0]
        have : k ≠ 0 := by omega
        simp [this]
  | .tree l a b, π => by
    show π ∈ [] :: (pths [0] a ++ pths [1] b) ↔ _
    rw [pths_cons, pths_cons]
    cases π with
    | nil => simp [lastR]
    | cons k r =>
      rw [List.mem_cons, List.mem_append, mem_map_cons, mem_map_cons, mem_pths a r, mem_pths b r]
      simp only [lastR, kidAt, kids]
      by_cases h0 : 0 ≤ k
      · rw [if_pos h0]
        by_cases hk : k = 0
        · subst hk
          simp
        · by_cases hk1 : k = 1
          · subst hk1
            simp
          · have : [a, b][k.toNat]? = none := List.getElem?_eq_none (by simp; omega)
            rw [this]
            simp [hk, hk1]
      · rw [if_neg h0]
        have h1 : k ≠ 0 := by omega
        have h2 : k ≠ 1 := by omega
        simp [h1, h2]
theorem fits_kid {two : Bool} {ls : List Str} {t s : Sh} {k : Int} (h : Fits two ls t) (e : kidAt t k = some s) : Fits two ls s := by
  unfold kidAt at e
  split at e
  · have hm := List.mem_of_getElem? e
    cases t with
    | nil => simp [kids] at hm
    | word l u =>
      simp only [kids, List.mem_singleton] at hm
      subst hm
      exact h.2.2
    | tree l a b =>
      simp only [kids, List.mem_cons, List.not_mem_nil, or_false] at hm
      rcases hm with rfl | rfl
      · exact h.2.2.1
      · exact h.2.2.2
  · cases e
theorem fits_last {two : Bool} {ls : List Str} : ∀ {π : List Int} {t s : Sh}, Fits two ls t → lastR t π = some s → Fits two ls s
  | [], t, s, h, e => by obtain rfl : t = s := Option.some.inj e; exact h
  | k :: π, t, s, h, e => by
    simp only [lastR] at e
    cases h1 : kidAt t k with
    | none => rw [h1] at e; cases e
    | some u => rw [h1] at e; exact fits_last (fits_kid h h1) e
/-- a path leads somewhere if it is () or one child further than an element's -/
theorem reach_iff {two : Bool} {ls : List Str} {t : Sh} (h : Fits two ls t) (ρ : List Int) {k : Int} (hk : 0 ≤ k) : (∃ s, lastR t (ρ ++ [k]) = some s) ↔ ρ ∈ pths [] t ∧ k < (if two then 2 else 1) := by
  rw [lastR_snoc, mem_pths]
  constructor
  · rintro ⟨s, e⟩
    cases h1 : lastR t ρ with
    | none => rw [h1] at e; cases e
    | some u =>
      rw [h1] at e
      have e' : kidAt u k = some s := e
      unfold kidAt at e'
      rw [if_pos hk] at e'
      have hl := (List.getElem?_eq_some_iff.mp e').1
      have hf := fits_last h h1
      cases u with
      | nil => simp [kids] at hl
      | word l v =>
        refine ⟨⟨_, rfl, by simp⟩, ?_⟩
        rw [hf.1]
        simp [kids] at hl
        show k < 1
        omega
      | tree l v w =>
        refine ⟨⟨_, rfl, by simp⟩, ?_⟩
        rw [hf.1]
        simp [kids] at hl
        show k < 2
        omega
  · rintro ⟨⟨u, h1, hn⟩, h2⟩
    rw [h1]
    have hf := fits_last h h1
    show ∃ s, kidAt u k = some s
    unfold kidAt
    rw [if_pos hk]
    cases u with
    | nil => exact absurd rfl hn
    | word l v =>
      rw [hf.1] at h2
      have h2' : k < 1 := h2
      have : k.toNat = 0 := by omega
      exact ⟨v, by rw [this]; rfl⟩
    | tree l v w =>
      rw [hf.1] at h2
      have h2' : k < 2 := h2
      have : k.toNat = 0 ∨ k.toNat = 1 := by omega
      rcases this with e | e
      · exact ⟨v, by rw [e]; rfl⟩
      · exact ⟨w, by rw [e]; rfl⟩
/-! ### texts read from the end -/
theorem cps_app (a b : Str) : (a ++ b).cps.toList = a.cps.toList ++ b.cps.toList := by
  show (a.cps ++ b.cps).toList = _
  simp
theorem ls_char {ls : List Str} (h : ls ∈ LS) {l : Str} (hl : l ∈ ls) : ∃ c, l.cps.toList = [c] ∧ (⟨#[c]⟩ : Str) = l ∧ ¬ (⟨#[c]⟩ : Str) = "." := by
  have all : ∀ x ∈ LT, ∃ c, x.cps.toList = [c] ∧ (⟨#[c]⟩ : Str) = x ∧ ¬ (⟨#[c]⟩ : Str) = "." := by
    intro x hx
    simp only [LT, List.mem_cons, List.not_mem_nil, or_false] at hx
    rcases hx with rfl | rfl | rfl | rfl
    · exact ⟨97, by decide +kernel, by decide +kernel, by decide +kernel⟩
    · exact ⟨98, by decide +kernel, by decide +kernel, by decide +kernel⟩
    · exact ⟨100, by decide +kernel, by decide +kernel, by decide +kernel⟩
    · exact ⟨122, by decide +kernel, by decide +kernel, by decide +kernel⟩
  exact all l (ls_letters h l hl)
theorem sign_out {ls : List Str} (h : ls ∈ LS) {c : Nat} (hc : c = 40 ∨ c = 41 ∨ c = 44) (two : Bool) (S : List Sh) : stepR two ls S c = S := by
  refine stepR_out ?_ fun hm => ?_
  · rcases hc with rfl | rfl | rfl <;> decide +kernel
  · have := ls_letters h _ hm
    rcases hc with rfl | rfl | rfl <;> exact absurd this (by decide +kernel)
theorem run_text {two : Bool} {ls : List Str} (h : ls ∈ LS) : ∀ (t : Sh) (S : List Sh), Fits two ls t → (text t).cps.toList.reverse.foldl (stepR two ls) S = t :: S
  | .nil, S, _ => by
    rw [show (text .nil).cps.toList.reverse = [46] by decide +kernel]
    exact stepR_dot (two := two) (ls := ls) (S := S) (c := 46) (by decide +kernel)
  | .word l t, S, f => by
    obtain ⟨c, e1, e2, e3⟩ := ls_char h f.2.1
    rw [show text (.word l t) = l ++ text t from rfl, cps_app, List.reverse_append, List.foldl_append, run_text h t S f.2.2, e1]
    have hm : (⟨#[c]⟩ : Str) ∈ ls := by rw [e2]; exact f.2.1
    obtain rfl := f.1
    show stepR false ls (t :: S) c = _
    unfold stepR
    rw [if_neg e3, if_pos hm, e2]
  | .tree l a b, S, f => by
    obtain ⟨c, e1, e2, e3⟩ := ls_char h f.2.1
    have hm : (⟨#[c]⟩ : Str) ∈ ls := by rw [e2]; exact f.2.1
    obtain rfl := f.1
    rw [show text (.tree l a b) = l ++ "(" ++ text a ++ "," ++ text b ++ ")" from rfl]
    simp only [cps_app, List.reverse_append, List.foldl_append]
    rw [show (Str.ofString ")").cps.toList.reverse = [41] by decide +kernel, show (Str.ofString ",").cps.toList.reverse = [44] by decide +kernel, show (Str.ofString "(").cps.toList.reverse = [40] by decide +kernel, e1]
    simp only [List.foldl_cons, List.foldl_nil, List.reverse_cons, List.reverse_nil, List.nil_append]
    rw [sign_out h (.inr (.inl rfl)), run_text h b S f.2.2.2, sign_out h (.inr (.inr rfl)), run_text h a _ f.2.2.1, sign_out h (.inl rfl)]
    unfold stepR
    rw [if_neg e3, if_pos hm, e2]
theorem runR_text {two : Bool} {ls : List Str} (h : ls ∈ LS) {t : Sh} (f : Fits two ls t) : runR two ls (text t) (text t).length = [t] := by
  unfold runR
  rw [List.take_of_length_le (by rw [List.length_reverse]; exact Nat.le_of_eq Array.length_toList)]
  exact run_text h t [] f
theorem runR_fits {two : Bool} {ls : List Str} {z : Str} {n : Nat} {s : Sh} (h : runR two ls z n = [s]) : Fits two ls s := by
  have all : ∀ (L : List Nat) (S : List Sh), (∀ s ∈ S, Fits two ls s) → ∀ s ∈ L.foldl (stepR two ls) S, Fits two ls s := by
    intro L
    induction L with
    | nil => intro S h; exact h
    | cons c r ih => intro S h; exact ih _ (stepR_fits h)
  have := all (z.cps.toList.reverse.take n) [] (fun s hs => by simp at hs) s
  unfold runR at h
  rw [h] at this
  exact this (by simp)
theorem fits_len {two : Bool} {ls : List Str} (h : ls ∈ LS) : ∀ {t : Sh}, Fits two ls t → (text t).length = if two then 5 * t.count + 1 else t.count + 1
  | .nil, _ => by
    show (Str.ofString ".").length = _
    rw [show (Str.ofString ".").length = 1 by decide +kernel]
    cases two <;> rfl
  | .word l t, f => by
    have := fits_len h f.2.2
    obtain rfl := f.1
    have h1 := (ls_one h l f.2.1).1
    rw [show text (.word l t) = l ++ text t from rfl, Str.length_append, this, h1]
    simp only [Sh.count]
    show 1 + (t.count + 1) = t.count + 1 + 1
    omega
  | .tree l a b, f => by
    have ha := fits_len h f.2.2.1
    have hb := fits_len h f.2.2.2
    obtain rfl := f.1
    have h1 := (ls_one h l f.2.1).1
    rw [show text (.tree l a b) = l ++ "(" ++ text a ++ "," ++ text b ++ ")" from rfl]
    simp only [Str.length_append, ha, hb, h1, l1, l2, l3, Sh.count]
    show 1 + 1 + (5 * a.count + 1) + 1 + (5 * b.count + 1) + 1 = 5 * (a.count + b.count + 1) + 1
    omega
theorem isSh_fits {two : Bool} {ls : List Str} : ∀ {t : Sh}, Fits two ls t → isSh two ls (toV t) = true
  | .nil, _ => rfl
  | .word l t, f => by
    obtain rfl := f.1
    simp [isSh, toV, f.2.1, isSh_fits f.2.2]
  | .tree l a b, f => by
    obtain rfl := f.1
    simp [isSh, toV, f.2.1, isSh_fits f.2.2.1, isSh_fits f.2.2.2]
theorem toV_size : ∀ t : Sh, (toV t).size ≤ 2 * t.count + 1
  | .nil => by simp [toV, Vl.size, Sh.count]
  | .word l t => by
    have := toV_size t
    simp only [toV, Vl.size, Sh.count]
    omega
  | .tree l a b => by
    have := toV_size a
    have := toV_size b
    simp only [toV, Vl.size, Sh.count]
    omega
theorem toV_good : ∀ {t : Sh}, Ones t → GoodV (toV t)
  | .nil, _ => True.intro
  | .word l t, h => ⟨h.1.2, toV_good h.2⟩
  | .tree l a b, h => ⟨h.1.2, toV_good h.2.1, toV_good h.2.2⟩
end K01
set_option Elab.async false
set_option linter.all false
set_option maxRecDepth 100000
set_option maxHeartbeats 2000000
namespace K01
open PySem PySem.Spec PyProof.Rows L2
section
variable {P : Program} {w : World} {K : PySem.W.Frag} {mg : Str → Option Value} {base : Heap}
theorem all_lshape {f g : Addr} {fd gd : FuncData} (F : Fun K "_law_shape" "_law_shape" sLShape f fd) (bS : Binds K fd ["tape", "kind", "count"] []) (mS : mg "_law_shape" = some (.ref f))
    (G : FnOk P w K mg base CX0 1 g gd ["tape", "many"] spTake) (bG : Binds K gd ["tape", "many"] []) (kG : PySem.W.keepIn K (.ref g) = true) (mG : mg "_law_take" = some (.ref g)) (ml : mg "len" = none) : ∀ n, FnOk P w K mg base CX0 (n + 1) f fd ["tape", "kind", "count"] (spLShape n)
  | 0 => no_lshape
  | n + 1 => ok_lshape F (all_lshape F bS mS G bG kG mG ml n) bS mS (by omega) G bG kG mG ml
theorem all_lpaths {f : Addr} {fd : FuncData} (F : Fun K "_law_paths" "_law_paths" sLPaths f fd) (bS : Binds K fd ["shape", "path"] []) (mS : mg "_law_paths" = some (.ref f)) (ml : mg "len" = none) (mr : mg "range" = none) : ∀ n, FnOk P w K mg base CX0 n f fd ["shape", "path"] (spLPaths n)
  | 0 => by
    have no : ∀ vs H Q E, ¬ spLPaths 0 vs H Q E := fun vs H Q E h => by
      obtain ⟨a, p, t, π, _, _, _, h, _⟩ := h
      exact absurd h (Nat.not_lt_zero _)
    exact ⟨fun vs H Q E h => absurd h (no vs H Q E), fun A outer s H args us vs Q E _ _ _ _ h => absurd h (no vs H Q E)⟩
  | n + 1 => ok_lpaths F (all_lpaths F bS mS ml mr n) bS mS ml mr
theorem all_lwith {f : Addr} {fd : FuncData} (F : Fun K "_law_with" "_law_with" sLWith f fd) (bS : Binds K fd ["shape", "path", "new"] []) (mS : mg "_law_with" = some (.ref f)) : ∀ n, FnOk P w K mg base CX0 n f fd ["shape", "path", "new"] (spLWith n)
  | 0 => by
    have no : ∀ vs H Q E, ¬ spLWith 0 vs H Q E := fun vs H Q E h => by
      obtain ⟨a, p, c, t, u, r, π, _, _, _, _, h, _⟩ := h
      exact absurd h (Nat.not_lt_zero _)
    exact ⟨fun vs H Q E h => absurd h (no vs H Q E), fun A outer s H args us vs Q E _ _ _ _ h => absurd h (no vs H Q E)⟩
  | n + 1 => ok_lwith F (all_lwith F bS mS n) bS mS
theorem all_lis {f : Addr} {fd : FuncData} (F : Fun K "_law_is" "_law_is" sLIs f fd) (bS : Binds K fd ["kind", "value"] []) (mS : mg "_law_is" = some (.ref f)) (ml : mg "len" = none) (mi : mg "isinstance" = none) (mt : mg "tuple" = none) : ∀ n, FnOk P w K mg base CX0 n f fd ["kind", "value"] (spLIs n)
  | 0 => no_lis
  | n + 1 => ok_lis F (all_lis F bS mS ml mi mt n) bS mS ml mi mt
end
theorem sIx_m1 (n d : Nat) : HT.sIx n d (some (-1)) = n - 1 := by
  show (if (-1 : Int) < 0 then ((-1 : Int) + (n : Int)).toNat else min (-1 : Int).toNat n) = n - 1
  rw [if_pos (by decide)]
  omega
theorem cut_init (xs : List V) : cutV xs none (some (-1)) = xs.dropLast := by
  unfold cutV
  rw [HT.sIx_none, List.drop_zero, Nat.sub_zero, List.dropLast_eq_take]
  rw [sIx_m1]
/-- t[:-1], t not empty -/
theorem init_sl {K : PySem.W.Frag} {H : Hp} {c : Addr} {xs : List V} {Q : VK} (h : H c = some (.tup xs)) (hx : xs ≠ []) (q : ∀ p H', Same H H' → H' p = some (.tup xs.dropLast) → Q (.ref p) H') : rSlA K (.ref c) none (some (-1)) H Q := by
  refine ⟨c, xs, rfl, SqT.of h, fun z => ?_, fun _ p hp => ?_⟩
  · have h2 := z.2
    rw [sIx_m1] at h2
    have := List.length_pos_iff.mpr hx
    omega
  · refine q p _ (same_new hp) ?_
    rw [upd_same, cut_init]
/-- the shape, its elements' paths and the kind, as the law holds them -/
structure LawAt (H : Hp) (t k a la : Addr) (two : Bool) (ls : List Str) (sh : Sh) (as : List Addr) : Prop where
  tape : TapeOk H t
  kind : KindAt H k two ls
  rep : Rep H a sh
  fits : Fits two ls sh
  count : sh.count ≤ 12
  list : H la = some (.lst (as.map V.ref))
  items : Al (PItem H) as (pths [] sh)
theorem LawAt.but {H H' : Hp} {t k a la : Addr} {two : Bool} {ls : List Str} {sh : Sh} {as : List Addr} (L : LawAt H t k a la two ls sh as) (g : But t H H') (T : TapeOk H' t) : LawAt H' t k a la two ls sh as := by
  have kt := L.tape.keepT g
  refine ⟨T, L.kind.but L.tape g, L.rep.keepT kt, L.fits, L.count, g _ _ (fun z => ?_) L.list, L.items.mono (PItem.keep kt)⟩
  obtain ⟨kvs, c, Tt⟩ := L.tape
  have := L.list
  rw [z, Tt.dict] at this
  cases this
theorem LawAt.same {H H' : Hp} {t k a la : Addr} {two : Bool} {ls : List Str} {sh : Sh} {as : List Addr} (L : LawAt H t k a la two ls sh as) (g : Same H H') : LawAt H' t k a la two ls sh as := L.but (But.of g) (L.tape.same g)
/-- a list of paths as data -/
theorem paths_data {K : PySem.W.Frag} {H : Hp} : ∀ {as : List Addr} {L : List (List Int)}, Al (PItem H) as L → DpAll K H (as.map V.ref) (L.map fun π => .tuple (π.map PyData.int))
  | [], [], _ => .nil
  | _ :: _, _ :: _, ⟨h, t⟩ => .cons (ints_data h) (paths_data t)
theorem ints_lay (π : List Int) : (PyData.tuple (π.map PyData.int)).canLay0 = true ∧ (PyData.tuple (π.map PyData.int)).depth ≤ 55 := by
  have h1 : PyData.canLayAll0 (π.map PyData.int) = true := by
    induction π with
    | nil => rfl
    | cons x r ih => simp [PyData.canLayAll0, PyData.canLay0, ih]
  have h2 : PyData.depthAll (π.map PyData.int) = 0 := by
    induction π with
    | nil => rfl
    | cons x r ih =>
      have h3 : PyData.canLayAll0 (r.map PyData.int) = true := by
        simpa [PyData.canLayAll0, PyData.canLay0] using h1
      simp [PyData.depthAll, PyData.depth, ih h3]
  exact ⟨by simp [PyData.canLay0, h1], by simp [PyData.depth, h2]⟩
theorem paths_shaped (L : List (List Int)) : SeqAt.shaped (.list (L.map fun π => .tuple (π.map PyData.int))) = true := by
  refine shaped_list fun d hd => ?_
  obtain ⟨π, _, rfl⟩ := List.mem_map.mp hd
  exact ints_lay π
theorem eqv_ints : ∀ (π ρ : List Int), PyData.eqvAll (π.map PyData.int) (ρ.map PyData.int) = decide (π = ρ)
  | [], [] => rfl
  | [], _ :: _ => rfl
  | _ :: _, [] => rfl
  | x :: π, y :: ρ => by
    have ih := eqv_ints π ρ
    simp only [List.map_cons, PyData.eqvAll, ih]
    show (PyData.eqv (.int x) (.int y) && _) = _
    by_cases h : x = y
    · subst h
      simp [PyData.eqv]
    · have : PyData.eqv (.int x) (.int y) = false := by simp [PyData.eqv, h]
      rw [this]
      simp [h]
theorem any_paths (L : List (List Int)) (π : List Int) : (L.map fun ρ => PyData.tuple (ρ.map PyData.int)).any (fun z => PyData.eqv z (.tuple (π.map PyData.int))) = decide (π ∈ L) := by
  induction L with
  | nil => rfl
  | cons ρ r ih =>
    rw [List.map_cons, List.any_cons, ih]
    show (PyData.eqvAll (ρ.map PyData.int) (π.map PyData.int) || _) = _
    rw [eqv_ints]
    by_cases h : ρ = π
    · simp [h]
    · have : ¬ π = ρ := fun z => h z.symm
      simp [h, this]
theorem eqd_rep {K : PySem.W.Frag} {H : Hp} : ∀ {t : Sh} {a b : Addr} {m : Nat}, Rep H a t → Rep H b t → t.count + 1 ≤ m → Eqd K H (m + 1) (.ref a) (.ref b)
  | .nil, a, b, m, .nil h1, .nil h2, _ => .tup (SqT.of h1) (SqT.of h2) rfl (by show 0 ≤ 1000; decide) fun i x y e _ => by simp at e
  | .word l t, a, b, m + 1, .word h1 r1, .word h2 r2, hm => .tup (SqT.of h1) (SqT.of h2) rfl (by show 2 ≤ 1000; decide) fun i x y e1 e2 => by
    simp only [Sh.count] at hm
    match i, e1, e2 with
    | 0, e1, e2 =>
      obtain rfl : V.str l = x := Option.some.inj e1
      obtain rfl : V.str l = y := Option.some.inj e2
      exact .str _ _
    | 1, e1, e2 =>
      obtain rfl : V.ref _ = x := Option.some.inj e1
      obtain rfl : V.ref _ = y := Option.some.inj e2
      exact eqd_rep r1 r2 (by omega)
    | i + 2, e1, e2 => simp at e1
  | .tree l t u, a, b, m + 1, .tree h1 r1 s1, .tree h2 r2 s2, hm => .tup (SqT.of h1) (SqT.of h2) rfl (by show 3 ≤ 1000; decide) fun i x y e1 e2 => by
    simp only [Sh.count] at hm
    match i, e1, e2 with
    | 0, e1, e2 =>
      obtain rfl : V.str l = x := Option.some.inj e1
      obtain rfl : V.str l = y := Option.some.inj e2
      exact .str _ _
    | 1, e1, e2 =>
      obtain rfl : V.ref _ = x := Option.some.inj e1
      obtain rfl : V.ref _ = y := Option.some.inj e2
      exact eqd_rep r1 r2 (by omega)
    | 2, e1, e2 =>
      obtain rfl : V.ref _ = x := Option.some.inj e1
      obtain rfl : V.ref _ = y := Option.some.inj e2
      exact eqd_rep s1 s2 (by omega)
    | i + 3, e1, e2 => simp at e1
theorem eqd_ints {K : PySem.W.Frag} {H : Hp} {a b : Addr} {π : List Int} {m : Nat} (h1 : H a = some (.tup (π.map V.int))) (h2 : H b = some (.tup (π.map V.int))) (hz : π.length ≤ 1000) : Eqd K H (m + 2) (.ref a) (.ref b) :=
  .tup (SqT.of h1) (SqT.of h2) rfl (by rw [List.length_map]; exact hz) fun i x y e1 e2 => by
    rw [e1] at e2
    obtain rfl := Option.some.inj e2
    rw [List.getElem?_map] at e1
    cases z : π[i]? with
    | none => rw [z] at e1; cases e1
    | some k => rw [z] at e1; obtain rfl := Option.some.inj e1; exact .int _ _
/-- the ints of a tuple in the heap -/
def kOf (H : Hp) : V → List Int
  | .ref a => (match H a with | some (.tup vs) => vs.map (fun v => match v with | .int i => i | _ => 0) | _ => [])
  | _ => []
theorem kOf_path {H : Hp} {a : Addr} {π : List Int} (h : PItem H a π) : kOf H (.ref a) = π := by
  have h' : H a = some (.tup (π.map V.int)) := h
  unfold kOf
  simp only [h']
  rw [List.map_map]
  exact List.map_id _
end K01
set_option Elab.async false
set_option linter.all false
set_option maxRecDepth 100000
set_option maxHeartbeats 4000000
namespace K01
open PySem PySem.Spec PyProof.Rows L2
theorem Al.get {α : Type} {R : Addr → α → Prop} : ∀ {as : List Addr} {ss : List α} {i : Nat} {a : Addr}, Al R as ss → as[i]? = some a → ∃ s, ss[i]? = some s ∧ R a s
  | [], [], i, a, _, e => by simp at e
  | b :: as, s :: ss, 0, a, ⟨h, _⟩, e => by
    simp at e
    exact ⟨s, rfl, e ▸ h⟩
  | b :: as, s :: ss, i + 1, a, ⟨_, t⟩, e => t.get (i := i) (by simpa using e)
theorem pths_short : ∀ (t : Sh) (π : List Int), π ∈ pths [] t → π.length < t.count
  | .nil, π, h => by simp [pths] at h
  | .word l t, π, h => by
    have h' : π ∈ [] :: pths [0] t := h
    rw [pths_cons] at h'
    rcases List.mem_cons.mp h' with rfl | h'
    · simp [Sh.count]
    · obtain ⟨q, hq, rfl⟩ := List.mem_map.mp h'
      have := pths_short t q hq
      simp only [List.length_cons, Sh.count]
      omega
  | .tree l a b, π, h => by
    have h' : π ∈ [] :: (pths [0] a ++ pths [1] b) := h
    rw [pths_cons, pths_cons] at h'
    rcases List.mem_cons.mp h' with rfl | h'
    · simp [Sh.count]
    · rcases List.mem_append.mp h' with h' | h'
      · obtain ⟨q, hq, rfl⟩ := List.mem_map.mp h'
        have := pths_short a q hq
        simp only [List.length_cons, Sh.count]
        omega
      · obtain ⟨q, hq, rfl⟩ := List.mem_map.mp h'
        have := pths_short b q hq
        simp only [List.length_cons, Sh.count]
        omega
theorem pths_pos : ∀ (t : Sh) (π : List Int), π ∈ pths [] t → ∀ x ∈ π, 0 ≤ x
  | .nil, π, h => by simp [pths] at h
  | .word l t, π, h => by
    have h' : π ∈ [] :: pths [0] t := h
    rw [pths_cons] at h'
    rcases List.mem_cons.mp h' with rfl | h'
    · simp
    · obtain ⟨q, hq, rfl⟩ := List.mem_map.mp h'
      have := pths_pos t q hq
      intro x hx
      rcases List.mem_cons.mp hx with rfl | hx
      · decide
      · exact this x hx
  | .tree l a b, π, h => by
    have h' : π ∈ [] :: (pths [0] a ++ pths [1] b) := h
    rw [pths_cons, pths_cons] at h'
    rcases List.mem_cons.mp h' with rfl | h'
    · simp
    · rcases List.mem_append.mp h' with h' | h'
      · obtain ⟨q, hq, rfl⟩ := List.mem_map.mp h'
        have := pths_pos a q hq
        intro x hx
        rcases List.mem_cons.mp hx with rfl | hx
        · decide
        · exact this x hx
      · obtain ⟨q, hq, rfl⟩ := List.mem_map.mp h'
        have := pths_pos b q hq
        intro x hx
        rcases List.mem_cons.mp hx with rfl | hx
        · decide
        · exact this x hx
theorem kid_count {t s : Sh} {k : Int} (h : kidAt t k = some s) : s.count < t.count := by
  unfold kidAt at h
  split at h
  · have hm := List.mem_of_getElem? h
    cases t with
    | nil => simp [kids] at hm
    | word l u =>
      simp only [kids, List.mem_singleton] at hm
      subst hm
      simp only [Sh.count]
      omega
    | tree l a b =>
      simp only [kids, List.mem_cons, List.not_mem_nil, or_false] at hm
      simp only [Sh.count]
      rcases hm with rfl | rfl <;> omega
  · cases h
theorem last_count : ∀ {π : List Int} {t s : Sh}, lastR t π = some s → s.count ≤ t.count
  | [], t, s, h => by obtain rfl : t = s := Option.some.inj h; exact Nat.le_refl _
  | k :: π, t, s, h => by
    simp only [lastR] at h
    cases h1 : kidAt t k with
    | none => rw [h1] at h; cases h
    | some u =>
      rw [h1] at h
      have := kid_count h1
      have := last_count (t := u) h
      omega
theorem set_count : ∀ {π : List Int} {t u r : Sh}, setAt t π u = some r → r.count ≤ t.count + u.count
  | [], t, u, r, h => by obtain rfl : u = r := Option.some.inj h; omega
  | k :: π, t, u, r, h => by
    simp only [setAt] at h
    cases h1 : kidAt t k with
    | none => rw [h1] at h; cases h
    | some s =>
      rw [h1] at h
      simp only [Option.bind_some] at h
      cases h2 : setAt s π u with
      | none => rw [h2] at h; cases h
      | some s' =>
        rw [h2] at h
        obtain rfl : putKid t k s' = r := Option.some.inj h
        have h3 := set_count h2
        have h4 := kid_count h1
        cases t with
        | nil => simp [putKid, Sh.count]
        | word l v =>
          obtain rfl : v = s := by
            have e := h1
            unfold kidAt at e
            split at e
            · have hm := List.mem_of_getElem? e
              simp only [kids, List.mem_singleton] at hm
              exact hm.symm
            · cases e
          simp only [putKid, Sh.count]
          omega
        | tree l a b =>
          have hs : s = a ∨ s = b := by
            have e := h1
            unfold kidAt at e
            split at e
            · have hm := List.mem_of_getElem? e
              simpa only [kids, List.mem_cons, List.not_mem_nil, or_false] using hm
            · cases e
          have e := h1
          unfold kidAt at e
          split at e
          case isFalse => cases e
          rename_i h0
          by_cases hk : k = 0
          · subst hk
            obtain rfl : a = s := by simpa [kids] using e
            show (if (0 : Int) = 0 then Sh.tree l s' b else Sh.tree l a s').count ≤ _
            rw [if_pos rfl]
            simp only [Sh.count]
            omega
          · show (if k = 0 then Sh.tree l s' b else Sh.tree l a s').count ≤ _
            rw [if_neg hk]
            have hk1 : k.toNat = 1 := by
              have := (List.getElem?_eq_some_iff.mp e).1
              simp [kids] at this
              omega
            rw [hk1] at e
            obtain rfl : b = s := by simpa [kids] using e
            simp only [Sh.count]
            omega
theorem fn_quiet {P : Program} {w : World} {K : PySem.W.Frag} {mg : Str → Option Value} {base : Heap} {f : Addr} {fd : FuncData} {k : Nat} {ps : List Str} {sp : Sp} (h : FnOk P w K mg base (L2.CX P w) k f fd ps sp) : FnOk P w K mg base CX0 k f fd ps (fun vs H Q _ => sp vs H Q E0) :=
  ⟨fun vs H Q _ q => h.len vs H Q E0 q, fun A outer s H args us vs Q E hr e b v q => codeAny_mono (h.run A outer s H args us vs Q E0 hr e b v q) fun r s' z => by
    match r, z with
    | .ok (.ret u), z => exact z
    | .error e, z =>
      obtain ⟨_, _, _, _, _, _, _, _, _, _, _, _, z⟩ := z
      exact z.elim⟩
theorem room65 {k : Nat} {A : Around} (r : Room k A) : A.units + 65 < cLine := by have := r.un; omega
theorem way_cases (t : Sh) (π : List Int) : (lastR t π = none ∧ wayF t π = none) ∨ ∃ s W, lastR t π = some s ∧ wayF t π = some (W ++ [s]) := by
  rw [wayF_R]
  cases h : lastR t π with
  | none => exact .inl ⟨rfl, way_none h⟩
  | some s =>
    obtain ⟨W, hW⟩ := way_last h
    exact .inr ⟨s, W, rfl, hW⟩
theorem way_inj {t s : Sh} {π : List Int} {W : List Sh} (h : wayF t π = some (W ++ [s])) : lastR t π = some s := by
  rcases way_cases t π with ⟨_, e⟩ | ⟨s2, W2, e1, e2⟩
  · rw [e] at h; cases h
  · rw [e2] at h
    obtain ⟨_, h2⟩ := List.append_inj' (Option.some.inj h) rfl
    obtain rfl : s2 = s := by simpa using h2
    exact e1
/-- what the law holds for other values: data of a tuple of one, three, four -/
theorem data_lay' {t : Sh} (h : Ones t) (hc : t.count ≤ 40) : (data t).canLay0 = true ∧ (data t).depth ≤ 55 := ⟨data_lay t h, by have := data_depth t; omega⟩
theorem shaped_tup {ds : List PyData} (h : ∀ d ∈ ds, d.canLay0 = true ∧ d.depth ≤ 55) : SeqAt.shaped (.tuple ds) = true := by
  have h1 : PyData.canLayAll0 ds = true := by
    induction ds with
    | nil => rfl
    | cons d r ih => simp [PyData.canLayAll0, (h d (by simp)).1, ih fun q m => h q (by simp [m])]
  have h2 : PyData.depthAll ds ≤ 56 := by
    induction ds with
    | nil => simp [PyData.depthAll]
    | cons d r ih =>
      have a := (h d (by simp)).2
      have b := ih (fun q m => h q (by simp [m])) (by simp [PyData.canLayAll0] at h1; exact h1.2)
      simp only [PyData.depthAll]
      omega
  unfold SeqAt.shaped
  simp only [PyData.canLay0, h1, PyData.depth, Bool.true_and]
  exact decide_eq_true (by omega)
/-- a value that may be a shape -/
def Oth (H : Hp) (v : V) (x : Vl) : Prop := RepV H v x ∧ x.size ≤ 28 ∧ (GoodV x ∨ x = .oth ∧ ∃ d, (∀ K H', Same H H' → Dp K H' v d) ∧ SeqAt.shaped d = true ∧ PyData.eqv d (.tuple []) = false)
theorem Oth.same {H H' : Hp} {v : V} {x : Vl} (g : Same H H') (h : Oth H v x) : Oth H' v x := by
  obtain ⟨h1, h2, h3⟩ := h
  refine ⟨h1.keepT (KeepT.of g), h2, ?_⟩
  rcases h3 with h3 | ⟨e, d, a, b⟩
  · exact .inl h3
  · exact .inr ⟨e, d, fun K H'' g' => a K H'' (g.trans g'), b⟩
theorem oth_mk {H : Hp} {a : Addr} {xs : List V} {ds : List PyData} (h : H a = some (.tup xs)) (h0 : xs ≠ []) (h2 : xs.length ≠ 2) (h3 : xs.length ≠ 3) (h9 : xs.length ≤ 9) (hd : ∀ K H', Same H H' → DpAll K H' xs ds) (hs : ∀ d ∈ ds, d.canLay0 = true ∧ d.depth ≤ 55) (hn : ds ≠ []) : Oth H (.ref a) .oth := by
  refine ⟨.oth h h0 h2 h3 h9, by show 1 ≤ 28; decide, .inr ⟨rfl, .tuple ds, fun K H' g => .tup (SqT.of (g _ _ h)) (hd K H' g), shaped_tup hs, ?_⟩⟩
  cases ds with
  | nil => exact absurd rfl hn
  | cons _ _ => rfl
theorem q_ok : PyData.strOk "q" = true := by decide +kernel
theorem a_ok : PyData.strOk "a" = true := by decide +kernel
theorem b_ok : PyData.strOk "b" = true := by decide +kernel
theorem KBad.keep {H H' : Hp} {o : Addr} (g : KeepT H H') (h : KBad H o) : KBad H' o := by
  obtain ⟨z, ls, lab, e1, e2, e3⟩ := h
  exact ⟨z, ls, lab, g _ _ e1, g _ _ e2, e3⟩
theorem kbad_mk {H : Hp} {i o : Addr} {z : Int} {ls : List Str} {xs : List V} (hxs : xs = ls.map V.str) (hi : H i = none) (ho : (upd H i (.tup xs)) o = none) (hm : (z, ls) ∈ B3) : Same H (upd (upd H i (.tup xs)) o (.tup [.int z, .ref i])) ∧ KBad (upd (upd H i (.tup xs)) o (.tup [.int z, .ref i])) o := by
  subst hxs
  refine ⟨(same_new hi).trans (same_new ho), z, ls, i, upd_same, ?_, hm⟩
  exact same_new ho _ _ upd_same
def spReadQ : Sp := fun vs H Q _ => ∃ (k : Addr) (t : Sh) (two : Bool) (ls : List Str), vs = [.ref k, .str (text t)] ∧ KindAt H k two ls ∧ Fits two ls t ∧ (text t).length ≤ 100 ∧ ∀ H' a, Same H H' → Rep H' a t → Q (.ref a) H'
theorem fn_readQ {P : Program} {w : World} {K : PySem.W.Frag} {mg : Str → Option Value} {base : Heap} {f C : Addr} {fd : FuncData} {k : Nat} {ps : List Str} (h : FnOk P w K mg base (L2.CX P w) k f fd ps (spRead C)) : FnOk P w K mg base CX0 k f fd ps spReadQ :=
  (fn_quiet h).imp fun vs H Q E q => by
    obtain ⟨kk, t, two, ls, rfl, hK, hf, hz, q⟩ := q
    have hls : ls ∈ LS := by obtain ⟨_, _, _, h⟩ := hK; exact h
    have e := runR_text hls hf
    refine ⟨kk, text t, two, ls, rfl, hK, hz, fun s hs _ H' a g r => ?_, fun h => absurd rfl (h t e)⟩
    rw [e] at hs
    obtain rfl : t = s := by simpa using hs
    exact q H' a g r
def spTryW : Sp := fun vs H Q _ => ∃ (a p c : Addr) (t u : Sh) (π : List Int), vs = [.ref a, .ref p, .ref c] ∧ Rep H a t ∧ H p = some (.tup (π.map V.int)) ∧ Rep H c u ∧ π.length ≤ 60 ∧
  (∀ W r, wayF t π = some W → setAt t π u = some r → ∀ H' b, Same H H' → Rep H' b r → Q (.ref b) H') ∧ (wayF t π = none → ∀ H', Same H H' → Q (.str "none") H')
def NL : List Str := ["script", "tape", "kind", "shape", "listed", "text", "found", "path", "expected", "new", "reach", "other", "wrong", "k"]
abbrev sLaw : Stmt := top 42
theorem scLaw : FnScope NL ["script"] (defScope sLaw) := ⟨rfl, rfl, rfl, by decide +kernel, rfl, by decide +kernel, by decide +kernel⟩
def spLaw (K : PySem.W.Frag) : Sp := fun vs H Q _ => ∃ (a : Addr) (ns : List Int), vs = [.ref a] ∧ SqL K H a (ns.map V.int) ∧ ns.length ≤ 63 ∧ ∀ H', Q (.bl true) H'
section
variable {P : Program} {w : World} {K : PySem.W.Frag} {mg : Str → Option Value} {base : Heap}
theorem ok_law {f f1 f2 f3 f4 f5 f6 f7 f8 f9 f10 f11 f12 f13 f14 f15 f16 f17 f18 f19 f20 : Addr} {fd d1 d2 d3 d4 d5 d6 d7 d8 d9 d10 d11 d12 d13 d14 d15 d16 d17 d18 d19 d20 : FuncData} (F : Fun K "law" "law" sLaw f fd)
    (G1 : FnOk P w K mg base CX0 1 f1 d1 ["script"] (spTape K)) (b1 : Binds K d1 ["script"] []) (k1 : PySem.W.keepIn K (.ref f1) = true) (m1 : mg "_law_tape" = some (.ref f1))
    (G2 : FnOk P w K mg base CX0 2 f2 d2 ["tape"] spLKind) (b2 : Binds K d2 ["tape"] []) (k2 : PySem.W.keepIn K (.ref f2) = true) (m2 : mg "_law_kind" = some (.ref f2))
    (G3 : FnOk P w K mg base CX0 1 f3 d3 ["tape", "many"] spTake) (b3 : Binds K d3 ["tape", "many"] []) (k3 : PySem.W.keepIn K (.ref f3) = true) (m3 : mg "_law_take" = some (.ref f3))
    (G3c : FnOk P w K mg base CX0 1 f3 d3 ["tape", "many"] spTakeC)
    (G4 : FnOk P w K mg base CX0 14 f4 d4 ["tape", "kind", "count"] (spLShape 13)) (b4 : Binds K d4 ["tape", "kind", "count"] []) (k4 : PySem.W.keepIn K (.ref f4) = true) (m4 : mg "_law_shape" = some (.ref f4))
    (G5 : FnOk P w K mg base CX0 13 f5 d5 ["shape", "path"] (spLPaths 13)) (b5 : Binds K d5 ["shape", "path"] []) (k5 : PySem.W.keepIn K (.ref f5) = true) (m5 : mg "_law_paths" = some (.ref f5))
    (G6 : FnOk P w K mg base CX0 40 f6 d6 ["actual", "expected"] (spSame K 20)) (b6 : Binds K d6 ["actual", "expected"] []) (k6 : PySem.W.keepIn K (.ref f6) = true) (m6 : mg "_law_same" = some (.ref f6))
    (G7 : FnOk P w K mg base CX0 3 f7 d7 ["shape"] spWrite) (b7 : Binds K d7 ["shape"] []) (k7 : PySem.W.keepIn K (.ref f7) = true) (m7 : mg "write_shape" = some (.ref f7))
    (G8 : FnOk P w K mg base CX0 3 f8 d8 ["shape"] spSize) (b8 : Binds K d8 ["shape"] []) (k8 : PySem.W.keepIn K (.ref f8) = true) (m8 : mg "size" = some (.ref f8))
    (G9 : FnOk P w K mg base CX0 1 f9 d9 ["shape"] spPaths) (b9 : Binds K d9 ["shape"] []) (k9 : PySem.W.keepIn K (.ref f9) = true) (m9 : mg "paths" = some (.ref f9))
    (G10 : FnOk P w K mg base CX0 14 f10 d10 ["shape"] (spLText 14)) (b10 : Binds K d10 ["shape"] []) (k10 : PySem.W.keepIn K (.ref f10) = true) (m10 : mg "_law_text" = some (.ref f10))
    (G11 : FnOk P w K mg base CX0 4 f11 d11 ["kind", "text"] spReadQ) (b11 : Binds K d11 ["kind", "text"] []) (k11 : PySem.W.keepIn K (.ref f11) = true) (m11 : mg "read_shape" = some (.ref f11))
    (G12 : FnOk P w K mg base CX0 2 f12 d12 ["tape", "text"] spBent) (b12 : Binds K d12 ["tape", "text"] []) (k12 : PySem.W.keepIn K (.ref f12) = true) (m12 : mg "_law_bent" = some (.ref f12))
    (G13 : FnOk P w K mg base CX0 5 f13 d13 ["kind", "text"] spLRead) (b13 : Binds K d13 ["kind", "text"] []) (k13 : PySem.W.keepIn K (.ref f13) = true) (m13 : mg "_law_read" = some (.ref f13))
    (G14 : FnOk P w K mg base CX0 30 f14 d14 ["kind", "value"] (spLIs 30)) (b14 : Binds K d14 ["kind", "value"] []) (k14 : PySem.W.keepIn K (.ref f14) = true) (m14 : mg "_law_is" = some (.ref f14))
    (G15 : FnOk P w K mg base CX0 1 f15 d15 ["shape", "path"] spLPart) (b15 : Binds K d15 ["shape", "path"] []) (k15 : PySem.W.keepIn K (.ref f15) = true) (m15 : mg "_law_part" = some (.ref f15))
    (G16 : FnOk P w K mg base CX0 3 f16 d16 ["shape", "path"] spLTryP) (b16 : Binds K d16 ["shape", "path"] []) (k16 : PySem.W.keepIn K (.ref f16) = true) (m16 : mg "_law_try_part" = some (.ref f16))
    (G17 : FnOk P w K mg base CX0 3 f17 d17 ["shape", "path", "new"] spTryW) (b17 : Binds K d17 ["shape", "path", "new"] []) (k17 : PySem.W.keepIn K (.ref f17) = true) (m17 : mg "_law_try_with" = some (.ref f17))
    (G18 : FnOk P w K mg base CX0 20 f18 d18 ["shape", "path", "new"] (spLWith 20)) (b18 : Binds K d18 ["shape", "path", "new"] []) (k18 : PySem.W.keepIn K (.ref f18) = true) (m18 : mg "_law_with" = some (.ref f18))
    (G19 : FnOk P w K mg base CX0 4 f19 d19 ["kind", "value"] spIsShape) (b19 : Binds K d19 ["kind", "value"] []) (k19 : PySem.W.keepIn K (.ref f19) = true) (m19 : mg "is_shape" = some (.ref f19))
    (G20 : FnOk P w K mg base CX0 4 f20 d20 ["kind"] spLKR) (b20 : Binds K d20 ["kind"] []) (k20 : PySem.W.keepIn K (.ref f20) = true) (m20 : mg "_law_kind_right" = some (.ref f20))
    (ml : mg "len" = none) (mso : mg "sorted" = none) (mt : mg "tuple" = none) (mr : mg "range" = none) : FnOk P w K mg base CX0 41 f fd ["script"] (spLaw K) := by
  refine F.ok scLaw (fun vs H Q E h => ?_) (fun cdv A outer s H vs Q E hr h => ?_)
  · obtain ⟨a, ns, rfl, _⟩ := h
    rfl
  obtain ⟨sc, ns, rfl, hS, h63, q⟩ := h
  have hr1 : Room 1 _ := hr.mono (by decide)
  have hr2 : Room 2 _ := hr.mono (by decide)
  have hr3 : Room 3 _ := hr.mono (by decide)
  have hr4 : Room 4 _ := hr.mono (by decide)
  have hr14 : Room 14 _ := hr.mono (by decide)
  have hr30 : Room 30 _ := hr.mono (by decide)
  refine ⟨_, pss_cons (ps_set (i := 1) scLaw.nd rfl (Or.inr rfl) (pe_call G1 hr1 (by rfl) m1 k1 b1 .nil pass0 (pa_cons (pv 0) pa_nil)))
    (pss_cons (ps_set (i := 2) scLaw.nd rfl (Or.inl rfl) (pe_call G2 hr2 (by rfl) m2 k2 b2 .nil pass0 (pa_cons (pv 1) pa_nil)))
    (pss_cons (ps_set (i := 3) scLaw.nd rfl (Or.inl rfl) (pe_call G4 hr14 (by rfl) m4 k4 b4 .nil pass0 (pa_cons (pv 1) (pa_cons (pv 2) (pa_cons (pe_call G3 hr1 (by rfl) m3 k3 b3 .nil pass0 (pa_cons (pv 1) (pa_cons pe_int pa_nil))) pa_nil)))))
    (pss_cons (ps_set (i := 4) scLaw.nd rfl (Or.inl rfl) (pe_callB (cr_sortTI (in2_units hr)) (by rfl) mso (by decide +kernel) (pa_cons (pe_call G5 (hr.mono (by decide)) (by rfl) m5 k5 b5 .nil pass0 (pa_cons (pv 3) (pa_cons (pe_tup pa_nil) pa_nil))) pa_nil)))
    (pss_cons (ps_if (pt_not (pt_val (pe_call G6 hr (by rfl) m6 k6 b6 .nil pass0 (pa_cons (pe_lst (pa_cons (pe_call G7 hr3 (by rfl) m7 k7 b7 .nil pass0 (pa_cons (pv 3) pa_nil)) (pa_cons (pe_call G8 hr3 (by rfl) m8 k8 b8 .nil pass0 (pa_cons (pv 3) pa_nil)) (pa_cons (pe_call G9 hr1 (by rfl) m9 k9 b9 .nil pass0 (pa_cons (pv 3) pa_nil)) pa_nil))))
        (pa_cons (pe_lst (pa_cons (pe_call G10 hr14 (by rfl) m10 k10 b10 .nil pass0 (pa_cons (pv 3) pa_nil)) (pa_cons (pe_callB call_len_seq (by rfl) ml PySem.boot_len (pa_cons (pv 4) pa_nil)) (pa_cons (pv 4) pa_nil)))) pa_nil))))) pss_never pss_nil)
    (pss_cons (ps_if (pt_not (pt_val (pe_call G6 hr (by rfl) m6 k6 b6 .nil pass0 (pa_cons (pe_call G11 hr4 (by rfl) m11 k11 b11 .nil pass0 (pa_cons (pv 2) (pa_cons (pe_call G10 hr14 (by rfl) m10 k10 b10 .nil pass0 (pa_cons (pv 3) pa_nil)) pa_nil))) (pa_cons (pv 3) pa_nil))))) pss_never pss_nil)
    (pss_cons (ps_set (i := 5) scLaw.nd rfl (Or.inl rfl) (pe_call G12 hr2 (by rfl) m12 k12 b12 .nil pass0 (pa_cons (pv 1) (pa_cons (pe_call G10 hr14 (by rfl) m10 k10 b10 .nil pass0 (pa_cons (pv 3) pa_nil)) pa_nil))))
    (C8.pss_cut (ps_set (i := 6) scLaw.nd rfl (Or.inl rfl) (pe_call G13 (hr.mono (by decide)) (by rfl) m13 k13 b13 .nil pass0 (pa_cons (pv 2) (pa_cons (pv 5) pa_nil))))
    (C8.pss_cut (ps_if (PW.pt (pw_and (pt_cmpR (op_neD hr.units) (pv 6) pe_str (nomark _)) (pw_and1 (PW.pt (pw_or (pt_not (pt_val (pe_call G14 hr30 (by rfl) m14 k14 b14 .nil pass0 (pa_cons (pv 2) (pa_cons (pv 6) pa_nil))))) (pw_or1 (pt_cmpR op_ne (pe_call G10 hr14 (by rfl) m10 k10 b10 .nil pass0 (pa_cons (pv 6) pa_nil)) (pv 5) (nomark _)))))))) pss_never pss_nil)
    (C8.pss_cut (ps_if (PW.pt (pw_and (pt_cmpR (op_eqD hr.units) (pv 6) pe_str (nomark _)) (pw_and1 (pt_cmpR op_eq (pv 5) (pe_call G10 hr14 (by rfl) m10 k10 b10 .nil pass0 (pa_cons (pv 3) pa_nil)) (nomark _))))) pss_never pss_nil)
    (pss_cons (ps_set (i := 7) scLaw.nd rfl (Or.inl rfl) (pe_callTy call_tuple_of (by rfl) mt (by decide +kernel) (pa_cons (pe_lc (own := [("k", 13)]) (g := gName 13) (tt := tYes) (te := tCall spTakeC [] E0 (tCons (tVar 1) (tCons (tC (.int 2)) tNil))) rfl scLaw.nd (pi_range1 (by rfl) mr (pa_cons (pe_call G3 hr1 (by rfl) m3 k3 b3 .nil pass0 (pa_cons (pv 1) (pa_cons pe_int pa_nil))) pa_nil))
        (blkOk_by (own := [("k", 13)]) (N := NL) (sc := defScope sLaw) (by decide +kernel)) (fun _ _ _ _ _ => pg_name (i := 13) scLaw.nd rfl (Or.inl rfl)) (fun _ _ _ _ _ => pts_nil) (fun _ _ _ _ _ => pe_call G3c hr1 (by rfl) m3 k3 b3 .nil pass0 (pa_cons (pv 1) (pa_cons pe_int pa_nil)))) pa_nil)))
    (C8.pss_cut (ps_if (PW.pt (pw_and (pt_cmpR (op_neD hr.units) (pv 4) (pe_lst pa_nil) (nomark _)) (pw_and1 (pt_cmpR op_gt (pe_call G3 hr1 (by rfl) m3 k3 b3 .nil pass0 (pa_cons (pv 1) (pa_cons pe_int pa_nil))) pe_int (nomark _)))))
      (pss_one (ps_set (i := 7) scLaw.nd rfl (Or.inl rfl) (pe_op op_catA (pe_ix ix_list (pv 4) (pe_call G3 hr1 (by rfl) m3 k3 b3 .nil pass0 (pa_cons (pv 1) (pa_cons (pe_callB call_len_seq (by rfl) ml PySem.boot_len (pa_cons (pv 4) pa_nil)) pa_nil))) (fun _ _ => rfl))
        (pe_ix ix_tup (pe_tup (pa_cons (pe_tup (pa_cons pe_int pa_nil)) (pa_cons (pe_tup (pa_cons pe_int pa_nil)) (pa_cons (pe_tup pa_nil) pa_nil)))) (pe_call G3 hr1 (by rfl) m3 k3 b3 .nil pass0 (pa_cons (pv 1) (pa_cons pe_int pa_nil))) (fun _ _ => rfl))))) pss_nil)
    (C8.pss_cut (ps_set (i := 8) scLaw.nd rfl (Or.inl rfl) (pe_ifExp (pt_cmpR (op_inD (room65 hr)) (pv 7) (pv 4) (by with_unfolding_all rfl)) (pe_call G15 hr1 (by rfl) m15 k15 b15 .nil pass0 (pa_cons (pv 3) (pa_cons (pv 7) pa_nil))) pe_str))
    (C8.pss_cut (ps_if (pt_not (pt_val (pe_call G6 hr (by rfl) m6 k6 b6 .nil pass0 (pa_cons (pe_call G16 hr3 (by rfl) m16 k16 b16 .nil pass0 (pa_cons (pv 3) (pa_cons (pv 7) pa_nil))) (pa_cons (pv 8) pa_nil))))) pss_never pss_nil)
    (pss_cons (ps_set (i := 9) scLaw.nd rfl (Or.inl rfl) (pe_call G4 hr14 (by rfl) m4 k4 b4 .nil pass0 (pa_cons (pv 1) (pa_cons (pv 2) (pa_cons (pe_call G3 hr1 (by rfl) m3 k3 b3 .nil pass0 (pa_cons (pv 1) (pa_cons pe_int pa_nil))) pa_nil)))))
    (C8.pss_cut (ps_set (i := 10) scLaw.nd rfl (Or.inl rfl) (pe_or (pe_cmpR (op_eqD hr.units) (pv 7) (pe_tup pa_nil) (nomark _)) (pe_one (pe_and (pe_cmpR (op_inD (room65 hr)) (pe_slice sl_tupA (pv 7) po_none (po_some (pe_un un_neg pe_int))) (pv 4) (by with_unfolding_all rfl)) (pe_one (pe_cmpR op_lt (pe_ix ix_tup (pv 7) (pe_un un_neg pe_int) (fun _ _ => rfl)) (pe_ix ix_tup (pv 2) pe_int (fun _ _ => rfl)) (nomark _)))))))
    (C8.pss_cut (ps_if (pt_not (pt_val (pe_call G6 hr (by rfl) m6 k6 b6 .nil pass0 (pa_cons (pe_call G17 hr3 (by rfl) m17 k17 b17 .nil pass0 (pa_cons (pv 3) (pa_cons (pv 7) (pa_cons (pv 9) pa_nil)))) (pa_cons (pe_ifExp (pt_val (pv 10)) (pe_call G18 (hr.mono (by decide)) (by rfl) m18 k18 b18 .nil pass0 (pa_cons (pv 3) (pa_cons (pv 7) (pa_cons (pv 9) pa_nil)))) pe_str) pa_nil))))) pss_never pss_nil)
    (C8.pss_cut (ps_set (i := 11) scLaw.nd rfl (Or.inl rfl) (pe_ix ix_list (pe_lst (pa_cons (pv 3) (pa_cons (pe_tup (pa_cons (pv 3) pa_nil)) (pa_cons (pe_op op_catA (pe_tup (pa_cons pe_str pa_nil)) (pe_slice sl_tupA (pv 3) (po_some pe_int) po_none)) (pa_cons (pe_op op_catA (pv 3) (pe_tup (pa_cons (pe_tup pa_nil) pa_nil)))
        (pa_cons (pe_tup (pa_cons pe_str (pa_cons (pv 3) pa_nil))) (pa_cons (pe_tup (pa_cons pe_str (pa_cons pe_str (pa_cons (pv 3) pa_nil)))) pa_nil))))))) (pe_call G3 hr1 (by rfl) m3 k3 b3 .nil pass0 (pa_cons (pv 1) (pa_cons pe_int pa_nil))) (fun _ _ => rfl)))
    (pss_cons (ps_if (pt_not (pt_val (pe_call G6 hr (by rfl) m6 k6 b6 .nil pass0 (pa_cons (pe_call G19 hr4 (by rfl) m19 k19 b19 .nil pass0 (pa_cons (pv 2) (pa_cons (pv 11) pa_nil))) (pa_cons (pe_call G14 hr30 (by rfl) m14 k14 b14 .nil pass0 (pa_cons (pv 2) (pa_cons (pv 11) pa_nil))) pa_nil))))) pss_never pss_nil)
    (pss_cons (ps_set (i := 12) scLaw.nd rfl (Or.inl rfl) (pe_lst (pa_cons (pe_tup (pa_cons pe_int (pa_cons (pe_tup (pa_cons pe_str pa_nil)) pa_nil))) (pa_cons (pe_tup (pa_cons pe_int (pa_cons (pe_tup (pa_cons pe_str pa_nil)) pa_nil))) (pa_cons (pe_tup (pa_cons pe_int (pa_cons (pe_tup pa_nil) pa_nil)))
        (pa_cons (pe_tup (pa_cons pe_int (pa_cons (pe_tup (pa_cons pe_str (pa_cons pe_str pa_nil))) pa_nil))) (pa_cons (pe_tup (pa_cons pe_int (pa_cons (pe_tup (pa_cons pe_str (pa_cons pe_str pa_nil))) pa_nil))) (pa_cons (pe_tup (pa_cons pe_int (pa_cons (pe_tup (pa_cons pe_str pa_nil)) pa_nil))) (pa_cons (pe_tup (pa_cons pe_int (pa_cons (pe_tup (pa_cons pe_str pa_nil)) pa_nil))) pa_nil)))))))))
    (pss_cons (ps_expr (pe_bm PySem.F.plainAttrs_list PySem.F.slot_list_append PySem.F.type_list_append mt_append (pv 12) (pa_cons (pe_tup (pa_cons pe_int (pa_cons (pe_tup (pa_cons pe_str (pa_cons pe_str (pa_cons pe_str (pa_cons pe_str pa_nil))))) pa_nil))) pa_nil)))
    (pss_one (ps_ret (pe_and (pe_call G20 hr4 (by rfl) m20 k20 b20 .nil pass0 (pa_cons (pv 2) pa_nil)) (pe_one (pe_not (pe_call G20 hr4 (by rfl) m20 k20 b20 .nil pass0 (pa_cons (pe_ix ix_list (pv 12) (pe_call G3 hr1 (by rfl) m3 k3 b3 .nil pass0 (pa_cons (pv 1) (pa_cons pe_int pa_nil))) (fun _ _ => rfl)) pa_nil))))))))))))))))))))))))))), ?_⟩
  refine ⟨_, rfl, sc, ns, rfl, hS, h63, fun H1 t g1 ht hT1 => ?_⟩
  refine ⟨_, rfl, t, rfl, hT1, fun H2 k two ls c2 hT2 hK2 => ?_⟩
  refine ⟨_, rfl, _, rfl, _, rfl, t, 13, rfl, hT2, by decide, by decide, fun H3 z c3 hT3 z0 z13 => ?_⟩
  have hK3 := hK2.but hT2 c3
  refine ⟨t, k, z.toNat, two, ls, congrArg (fun y => [V.ref t, V.ref k, V.int y]) (show z = ((z.toNat : Nat) : Int) by omega), hT3, hK3, by omega, by omega, fun H4 a sh c4 hT4 rs fs hc => ?_⟩
  have hK4 := hK3.but hT3 c4
  have hls : ls ∈ LS := by obtain ⟨_, _, _, h⟩ := hK4; exact h
  have hones := fits_ones hls fs
  have hcnt : sh.count ≤ 12 := by omega
  refine ⟨_, rfl, (by show 0 ≤ sizeLine; exact Nat.zero_le _), fun p0 hp0 => ?_⟩
  have g5 := same_new (o := .tup []) hp0
  refine ⟨a, p0, sh, [], rfl, rs.same g5, upd_same, by omega, by show 0 + sh.count ≤ 60; omega, hones, fun H6 l as g6 el al => ?_⟩
  have hT6 := (hT4.same g5).same g6
  have hxs : ∀ x ∈ as.map V.ref, ∃ t', x = V.ref t' ∧ H6 t' = some (.tup ((kOf H6 x).map V.int)) := by
    intro x hx
    obtain ⟨c, hc, rfl⟩ := List.mem_map.mp hx
    refine ⟨c, rfl, ?_⟩
    have get : ∀ {as : List Addr} {L : List (List Int)}, Al (PItem H6) as L → c ∈ as → ∃ π, PItem H6 c π := by
      intro as
      induction as with
      | nil => intro L _ h; simp at h
      | cons b r ih =>
        intro L h hm
        cases L with
        | nil => exact h.elim
        | cons π L =>
          rcases List.mem_cons.mp hm with rfl | hm
          · exact ⟨π, h.1⟩
          · exact ih h.2 hm
    obtain ⟨π, hπ⟩ := get al hc
    rw [kOf_path hπ]
    exact hπ
  have hk : (as.map V.ref).map (kOf H6) = pths [] sh := by
    have : ∀ {as : List Addr} {L : List (List Int)}, Al (PItem H6) as L → (as.map V.ref).map (kOf H6) = L := by
      intro as
      induction as with
      | nil =>
        intro L h
        cases L with
        | nil => rfl
        | cons _ _ => exact h.elim
      | cons b r ih =>
        intro L h
        cases L with
        | nil => exact h.elim
        | cons π L =>
          rw [List.map_cons, List.map_cons, kOf_path h.1, ih h.2]
    exact this al
  refine ⟨l, as.map V.ref, kOf H6, rfl, SqL.of el, hxs, fun x0 r e => ?_, fun ys la hys hst hla => ?_⟩
  · rw [e] at hk
    cases sh with
    | nil => simp [pths] at hk
    | word l u => simp [pths] at hk; exact hk.1
    | tree l u v => simp [pths] at hk; exact hk.1
  have hsx : SrtO.Srtd (fun x y => HT.lexLt (kOf H6 x) (kOf H6 y)) (as.map V.ref) := by
    have hp := pths_asc sh
    rw [← hk] at hp
    exact (List.pairwise_map.mp hp).imp fun h => XT.lex_asym _ _ h
  obtain rfl : ys = as.map V.ref := SrtO.stb_uniq (XT.swo_ti (kOf H6)) hys hsx hst
  have g7 := same_new (o := .lst (as.map V.ref)) hla
  have rs7 : Rep (upd H6 la (.lst (as.map V.ref))) a sh := ((rs.same g5).same g6).same g7
  have L7 : LawAt (upd H6 la (.lst (as.map V.ref))) t k a la two ls sh as := ⟨hT6.same g7, ((hK4.same g5).same g6).same g7, rs7, fs, hcnt, upd_same, al.mono (PItem.keep (KeepT.of g7))⟩
  generalize upd H6 la (.lst (as.map V.ref)) = H7 at *
  have hlen : as.length = sh.count := by rw [al.len, pths_len]
  -- the first comparison
  refine ⟨_, rfl, a, sh, rfl, L7.rep, by omega, hones, fun H8 g8 => ?_⟩
  have L8 := L7.same g8
  refine ⟨_, rfl, a, sh, rfl, L8.rep, by omega, fun H9 g9 => ?_⟩
  have L9 := L8.same g9
  refine ⟨_, rfl, a, sh, rfl, L9.rep, by omega, fun H10 pl as2 g10 epl al2 => ?_⟩
  have L10 := L9.same g10
  refine ⟨(by show 3 ≤ sizeLine; exact small (by decide)), fun A1 hA1 => ?_⟩
  have g11 := same_new (o := .lst [.str (text sh), .int (sh.count : Nat), .ref pl]) hA1
  have L11 := L10.same g11
  refine ⟨_, rfl, a, sh, rfl, L11.rep, by omega, by omega, hones, fun H12 g12 => ?_⟩
  have L12 := L11.same g12
  refine ⟨_, rfl, la, _, rfl, .inl (SqL.of L12.list), ?_⟩
  rw [List.length_map, hlen]
  refine ⟨_, rfl, (by show 3 ≤ sizeLine; exact small (by decide)), fun A2 hA2 => ?_⟩
  have g13 := same_new (o := .lst [.str (text sh), .int (sh.count : Nat), .ref la]) hA2
  have L13 := L12.same g13
  have g1113 := (g11.trans g12).trans g13
  refine ⟨_, _, rfl, .lst (SqL.of ((g12.trans g13) _ _ upd_same)) (SqL.of upd_same) rfl (by show 3 ≤ 1000; decide) (fun i x y e1 e2 => ?_), true, rfl, (iteNT ?_ : if (!true) = true then _ else _)⟩
  · match i, e1, e2 with
    | 0, e1, e2 =>
      obtain rfl : V.str (text sh) = x := Option.some.inj e1
      obtain rfl : V.str (text sh) = y := Option.some.inj e2
      exact .str _ _
    | 1, e1, e2 =>
      obtain rfl : V.int (sh.count : Nat) = x := Option.some.inj e1
      obtain rfl : V.int (sh.count : Nat) = y := Option.some.inj e2
      exact .int _ _
    | 2, e1, e2 =>
      obtain rfl : V.ref pl = x := Option.some.inj e1
      obtain rfl : V.ref la = y := Option.some.inj e2
      have al2' : Al (PItem _) as2 (pths [] sh) := al2.mono (PItem.keep (KeepT.of g1113))
      refine .lst (SqL.of (g1113 _ _ epl)) (SqL.of L13.list) (by rw [List.length_map, List.length_map, al2'.len, L13.items.len]) (by rw [List.length_map, hlen]; omega) fun j x y ex ey => ?_
      rw [List.getElem?_map] at ex ey
      cases zx : as2[j]? with
      | none => rw [zx] at ex; cases ex
      | some cx =>
        cases zy : as[j]? with
        | none => rw [zy] at ey; cases ey
        | some cy =>
          rw [zx] at ex
          rw [zy] at ey
          obtain rfl := Option.some.inj ex
          obtain rfl := Option.some.inj ey
          obtain ⟨π, hπ1, hπ2⟩ := al2'.get zx
          obtain ⟨ρ, hρ1, hρ2⟩ := L13.items.get zy
          rw [hπ1] at hρ1
          obtain rfl := Option.some.inj hρ1
          exact eqd_ints hπ2 hρ2 (by have := pths_short sh π (List.mem_of_getElem? hπ1); omega)
    | i + 3, e1, e2 => simp at e1
  -- read_shape of the text
  refine ⟨_, rfl, _, rfl, a, sh, rfl, L13.rep, by omega, by omega, hones, fun H14 g14 => ?_⟩
  have L14 := L13.same g14
  have htl := fits_len hls fs
  have htl62 : (text sh).length ≤ 61 := by
    rw [htl]
    split <;> omega
  refine ⟨k, sh, two, ls, rfl, L14.kind, fs, by omega, fun H15 a2 g15 r15 => ?_⟩
  have L15 := L14.same g15
  refine ⟨_, rfl, _, _, rfl, eqd_rep r15 L15.rep (by omega : sh.count + 1 ≤ 19), true, rfl, (iteNT ?_ : if (!true) = true then _ else _)⟩
  -- a bent text
  refine ⟨_, rfl, _, rfl, a, sh, rfl, L15.rep, by omega, by omega, hones, fun H16 g16 => ?_⟩
  have L16 := L15.same g16
  refine ⟨t, text sh, rfl, L16.tape, by omega, fun H17 z' c17 hT17 hz' => ?_⟩
  have L17 := L16.but c17 hT17
  have hfew : ∀ s, Fits two ls s → text s = z' → s.count ≤ 13 := fun s fc htx => by
    have hl := fits_len hls fc
    rw [htx] at hl
    rw [htl] at hz'
    cases two with
    | false =>
      have e1 : z'.length = s.count + 1 := hl
      have e2 : z'.length ≤ sh.count + 1 + 1 := hz'
      omega
    | true =>
      have e1 : z'.length = 5 * s.count + 1 := hl
      have e2 : z'.length ≤ 5 * sh.count + 1 + 1 := hz'
      omega
  refine ⟨fun σ' H' => ∃ v, σ' = [some (.ref sc), some (.ref t), some (.ref k), some (.ref a), some (.ref la), some (.str z'), some v, none, none, none, none, none, none, none] ∧ LawAt H' t k a la two ls sh as ∧ ((∃ c s, v = .ref c ∧ Rep H' c s ∧ Fits two ls s ∧ text s = z') ∨ (v = .str "none" ∧ z' ≠ text sh)), ?_, ?_⟩
  · refine ⟨_, rfl, _, rfl, k, z', two, ls, rfl, L17.kind, by omega, fun s hs ht H' c g r => ?_, fun h H' g => ?_⟩
    · exact ⟨_, rfl, L17.same g, .inl ⟨c, s, rfl, r, runR_fits hs, ht⟩⟩
    · refine ⟨_, rfl, L17.same g, .inr ⟨rfl, fun z => ?_⟩⟩
      subst z
      exact h sh (runR_text hls fs) rfl
  rintro σ' H18 ⟨v, rfl, L18, hv⟩
  refine ⟨fun σ' H' => ∃ v, σ' = [some (.ref sc), some (.ref t), some (.ref k), some (.ref a), some (.ref la), some (.str z'), some v, none, none, none, none, none, none, none] ∧ LawAt H' t k a la two ls sh as ∧ ((∃ c s, v = .ref c ∧ Rep H' c s ∧ Fits two ls s ∧ text s = z') ∨ (v = .str "none" ∧ z' ≠ text sh)), ?_, ?_⟩
  · rcases hv with ⟨c, s, rfl, rc, fc, htx⟩ | ⟨rfl, hne⟩
    · have oc := fits_ones hls fc
      have hcs := hfew s fc htx
      have ne : PyData.eqv (data s) (.str "none") = false := by cases s <;> rfl
      refine ⟨_, rfl, data s, .str "none", rc.data, .str _, data_shaped oc (by omega), (by decide +kernel), true, by rw [ne]; rfl, iteT' ?_⟩
      have hsz := toV_size s
      refine ⟨_, rfl, _, rfl, k, .ref c, two, ls, toV s, rfl, L18.kind, rc.toV, by omega, by omega, .inl (toV_good oc), fun H' g => ⟨true, congrArg V.bl (isSh_fits fc), iteNT ?_⟩⟩
      refine ⟨_, rfl, c, s, rfl, rc.same g, by omega, by omega, oc, fun H'' g' => ⟨_, rfl, rfl, false, congrArg V.bl (by rw [htx, decide_eq_true rfl]; rfl), iteF' ?_⟩⟩
      exact ⟨_, rfl, (L18.same g).same g', .inl ⟨c, s, rfl, (rc.same g).same g', fc, htx⟩⟩
    · refine ⟨_, rfl, .str "none", .str "none", .str _, .str _, (by decide +kernel), (by decide +kernel), false, by decide +kernel, iteF' (iteF' ?_)⟩
      exact ⟨_, rfl, L18, .inr ⟨rfl, hne⟩⟩
  rintro σ' H19 ⟨v, rfl, L19, hv⟩
  refine ⟨fun σ' H' => ∃ v, σ' = [some (.ref sc), some (.ref t), some (.ref k), some (.ref a), some (.ref la), some (.str z'), some v, none, none, none, none, none, none, none] ∧ LawAt H' t k a la two ls sh as, ?_, ?_⟩
  · rcases hv with ⟨c, s, rfl, rc, fc, htx⟩ | ⟨rfl, hne⟩
    · have oc := fits_ones hls fc
      have hcs := hfew s fc htx
      have ne : PyData.eqv (data s) (.str "none") = false := by cases s <;> rfl
      refine ⟨_, rfl, data s, .str "none", rc.data, .str _, data_shaped oc (by omega), (by decide +kernel), false, by rw [ne], iteF' (iteF' ?_)⟩
      exact ⟨_, rfl, L19⟩
    · refine ⟨_, rfl, .str "none", .str "none", .str _, .str _, (by decide +kernel), (by decide +kernel), true, by decide +kernel, iteT' ?_⟩
      refine ⟨_, rfl, _, rfl, a, sh, rfl, L19.rep, by omega, by omega, hones, fun H' g => ⟨rfl, false, congrArg V.bl (decide_eq_false fun z => hne (by injection z)), iteF' ?_⟩⟩
      exact ⟨_, rfl, L19.same g⟩
  rintro σ' H20 ⟨v, rfl, L20⟩
  -- a path
  have nt : ∀ {H' : Hp} {D : Addr} {xs : List V}, LawAt H' t k a la two ls sh as → H' D = some (.lst xs) → D ≠ t := fun L e z => by
    obtain ⟨kvs, c, Tt⟩ := L.tape
    rw [z, Tt.dict] at e
    cases e
  refine ⟨_, rfl, t, 4, rfl, L20.tape, by decide, by decide, fun H21 n c21 hT21 n0 n4 => ?_⟩
  have L21 := L20.but c21 hT21
  refine ⟨n, rfl, by omega, by show n < 2 ^ 62; omega, fun D hD => ?_⟩
  obtain ⟨kvs0, cc, T21⟩ := hT21
  have hcD : cc ≠ D := by
    obtain ⟨ns, e, _⟩ := T21.list
    exact ne_of_none e hD
  have htD : t ≠ D := ne_of_none T21.dict hD
  have stay : ∀ {H' : Hp} {ys : List V}, TapeC H' t cc → TapeC (upd H' D (.lst ys)) t cc := fun {H' ys} h => by
    obtain ⟨kvs, T⟩ := h
    obtain ⟨ns, e, hn⟩ := T.list
    exact ⟨kvs, by rw [upd_ne htD]; exact T.dict, T.len, T.cells, ⟨ns, by rw [upd_ne hcD]; exact e, hn⟩, T.at, T.left, T.seed, T.salt⟩
  have putD : ∀ {H' : Hp} {ys : List V}, But t H21 H' → But t H21 (upd H' D (.lst ys)) := fun {H' ys} g b o hb e => by
    rw [upd_ne (ne_of_none e hD)]
    exact g b o hb e
  refine lc_range (n := n.toNat) (fun u H3 => But t H21 H3 ∧ TapeC H3 t cc ∧ ∃ ns : List Int, ns.length = u ∧ H3 D = some (.lst (ns.map V.int)) ∧ ∀ x ∈ ns, 0 ≤ x) ⟨putD (But.refl t H21), stay ⟨kvs0, T21⟩, [], rfl, upd_same, fun x hx => by simp at hx⟩ (fun u H3 hu p => ?_) fun H3 p => ?_
  · obtain ⟨gb, tc, ns, e1, e2, e3⟩ := p
    refine ⟨rfl, yes_turn ?_⟩
    refine ⟨_, rfl, t, cc, 2, rfl, tc, by decide, by decide, fun H4 y c4 hT4 y0 y2 => ?_⟩
    have eD := c4 _ _ htD.symm e2
    refine ⟨_, eD, small' (by rw [List.length_map]; omega), putD (gb.trans c4), stay hT4, ns ++ [y], by rw [List.length_append, e1]; rfl, by rw [upd_same, List.map_append]; rfl, ?_⟩
    intro x hx
    rcases List.mem_append.mp hx with hx | hx
    · exact e3 x hx
    · rw [List.mem_singleton.mp hx]; exact y0
  obtain ⟨gb, ⟨kvs3, T3⟩, ns, e1, e2, e3⟩ := p
  have L3 := L21.but gb ⟨kvs3, cc, T3⟩
  refine ⟨D, _, rfl, .inl ⟨SqL.of e2, fun pa hpa => ?_⟩⟩
  have gpa := same_new (o := .tup (ns.map V.int)) hpa
  have L22 := L3.same gpa
  refine ⟨fun σ' H' => ∃ (v : V) (pa : Addr) (π : List Int), σ' = [some (.ref sc), some (.ref t), some (.ref k), some (.ref a), some (.ref la), some (.str z'), some v, some (.ref pa), none, none, none, none, none, none] ∧ LawAt H' t k a la two ls sh as ∧ H' pa = some (.tup (π.map V.int)) ∧ π.length ≤ 13 ∧ ∀ x ∈ π, (0 : Int) ≤ x, ?_, ?_⟩
  · have stay : ∃ (v' : V) (pa' : Addr) (π : List Int), [some (V.ref sc), some (.ref t), some (.ref k), some (.ref a), some (.ref la), some (.str z'), some v, some (.ref pa), none, none, none, none, none, none] = [some (V.ref sc), some (.ref t), some (.ref k), some (.ref a), some (.ref la), some (.str z'), some v', some (.ref pa'), none, none, none, none, none, none] ∧ LawAt (upd H3 pa (.tup (ns.map V.int))) t k a la two ls sh as ∧ (upd H3 pa (.tup (ns.map V.int))) pa' = some (.tup (π.map V.int)) ∧ π.length ≤ 13 ∧ ∀ x ∈ π, (0 : Int) ≤ x := ⟨v, pa, ns, rfl, L22, upd_same, by omega, e3⟩
    have npa : (upd H3 pa (.tup (ns.map V.int))) pa = some (.tup (ns.map V.int)) := upd_same
    generalize upd H3 pa (.tup (ns.map V.int)) = H23 at *
    refine ⟨_, rfl, (by show 0 ≤ sizeLine; exact Nat.zero_le _), fun L hL => ?_⟩
    have gL := same_new (o := .lst []) hL
    have L24 := L22.same gL
    refine ⟨.list ((pths [] sh).map fun π => .tuple (π.map PyData.int)), .list [], .lst (SqL.of L24.list) (paths_data L24.items), .lst (SqL.of upd_same) .nil, paths_shaped _, rfl, _, rfl, ?_⟩
    refine ite2 (fun c1 => ?_) (fun c1 => iteF' ⟨v, pa, ns, rfl, L24, gL _ _ npa, by omega, e3⟩)
    have hcp : 0 < sh.count := by
      cases sh with
      | nil => exact absurd c1 (by decide)
      | word l u => simp [Sh.count]
      | tree l u v => simp [Sh.count]
    generalize upd H23 L (.lst []) = H24 at *
    refine ⟨_, rfl, t, 3, rfl, L24.tape, by decide, by decide, fun H25 y c25 hT25 y0 y3 => ?_⟩
    have L25 := L24.but c25 hT25
    have pa25 := (L24.tape.keepT c25) _ _ (gL _ _ npa)
    refine ⟨_, _, rfl, rfl, _, rfl, ite2 (fun c2 => ?_) (fun c2 => ⟨v, pa, ns, rfl, L25, pa25, by omega, e3⟩)⟩
    refine ⟨_, rfl, _, rfl, _, rfl, la, _, rfl, .inl (SqL.of L25.list), t, _, rfl, L25.tape, by rw [List.length_map, hlen]; omega, by rw [List.length_map, hlen]; omega, fun H26 i c26 hT26 i0 i1 => ?_⟩
    have L26 := L25.but c26 hT26
    rw [List.length_map] at i1
    have hi : i.toNat < as.length := by omega
    obtain ⟨ρ, hρ1, hρ2⟩ := L26.items.get (List.getElem?_eq_getElem hi)
    have hat : atI (as.map V.ref) i = some (.ref as[i.toNat]) := at_of (j := i.toNat) (by omega) (by rw [List.getElem?_map, List.getElem?_eq_getElem hi] <;> rfl)
    have hρm := List.mem_of_getElem? hρ1
    have hρl := pths_short sh ρ hρm
    have hρp := pths_pos sh ρ hρm
    generalize as[i.toNat] = ca at hat hρ2
    refine ⟨la, _, _, _, rfl, rfl, SqL.of L26.list, hat, ?_⟩
    refine ⟨(by show 1 ≤ sizeLine; exact small (by decide)), fun q1 h1 => ⟨(by show 1 ≤ sizeLine; exact small (by decide)), fun q2 h2 => ⟨(by show 0 ≤ sizeLine; exact Nat.zero_le _), fun q3 h3 => ⟨(by show 3 ≤ sizeLine; exact small (by decide)), fun q4 h4 => ?_⟩⟩⟩⟩
    have s1 := same_new (o := .tup [.int 0]) h1
    have s2 := same_new (o := .tup [.int 1]) h2
    have s3 := same_new (o := .tup []) h3
    have s4 := same_new (o := .tup [.ref q1, .ref q2, .ref q3]) h4
    have x1 := s4 _ _ (s3 _ _ (s2 _ _ (upd_same (H := H26) (a := q1) (o := .tup [.int 0]))))
    have x2 := s4 _ _ (s3 _ _ (upd_same (a := q2) (o := .tup [.int 1])))
    have x3 := s4 _ _ (upd_same (a := q3) (o := .tup []))
    have x4 := upd_same (H := upd (upd (upd H26 q1 (.tup [.int 0])) q2 (.tup [.int 1])) q3 (.tup [])) (a := q4) (o := .tup [.ref q1, .ref q2, .ref q3])
    have s14 := ((s1.trans s2).trans s3).trans s4
    have L27 := L26.same s14
    have ρ27 := s14 _ _ hρ2
    generalize upd (upd (upd (upd H26 q1 (.tup [.int 0])) q2 (.tup [.int 1])) q3 (.tup [])) q4 (.tup [.ref q1, .ref q2, .ref q3]) = H27 at *
    refine ⟨_, rfl, t, 3, rfl, L27.tape, by decide, by decide, fun H28 d c28 hT28 d0 d3 => ?_⟩
    have L28 := L27.but c28 hT28
    have kk := L27.tape.keepT c28
    obtain ⟨qd, τ, hatd, ed, hτl, hτp⟩ : ∃ (qd : Addr) (τ : List Int), atI [V.ref q1, .ref q2, .ref q3] d = some (.ref qd) ∧ H28 qd = some (.tup (τ.map V.int)) ∧ τ.length ≤ 1 ∧ ∀ x ∈ τ, (0 : Int) ≤ x := by
      have hd : d = ((0 : Nat) : Int) ∨ d = ((1 : Nat) : Int) ∨ d = ((2 : Nat) : Int) := by omega
      rcases hd with rfl | rfl | rfl
      · exact ⟨q1, [0], atI_nat rfl, kk _ _ x1, Nat.le_refl _, fun x hx => by rw [List.mem_singleton.mp hx]; decide⟩
      · exact ⟨q2, [1], atI_nat rfl, kk _ _ x2, Nat.le_refl _, fun x hx => by rw [List.mem_singleton.mp hx]; decide⟩
      · exact ⟨q3, [], atI_nat rfl, kk _ _ x3, Nat.zero_le _, fun x hx => by simp at hx⟩
    refine ⟨q4, _, _, _, rfl, rfl, SqT.of (kk _ _ x4), hatd, ?_⟩
    refine cat_tup (kk _ _ ρ27) ed (by rw [List.length_map, List.length_map]; omega) fun pp H29 g29 e29 => ?_
    refine ⟨v, pp, ρ ++ τ, rfl, L28.same g29, by rw [e29, List.map_append], by rw [List.length_append]; omega, ?_⟩
    intro x hx
    rcases List.mem_append.mp hx with hx | hx
    · exact hρp x hx
    · exact hτp x hx
  rintro σ' H23 ⟨v, pa, π, rfl, L23, epa, hpl, hpos⟩
  refine ⟨fun σ' H' => ∃ (e : V), σ' = [some (.ref sc), some (.ref t), some (.ref k), some (.ref a), some (.ref la), some (.str z'), some v, some (.ref pa), some e, none, none, none, none, none] ∧ LawAt H' t k a la two ls sh as ∧ H' pa = some (.tup (π.map V.int)) ∧
      ((∃ c s, e = .ref c ∧ Rep H' c s ∧ lastR sh π = some s ∧ s ≠ .nil) ∨ (e = .str "none" ∧ ∀ s, lastR sh π = some s → s = .nil)), ?_, ?_⟩
  · refine ⟨_, rfl, _, rfl, .tuple (π.map PyData.int), (pths [] sh).map (fun π => .tuple (π.map PyData.int)), ints_data epa, .lst (SqL.of L23.list) (paths_data L23.items), ints_shaped π, paths_shaped _, _, rfl, ?_⟩
    rw [any_paths]
    by_cases hm : π ∈ pths [] sh
    · obtain ⟨s, hs, hn⟩ := (mem_pths sh π).mp hm
      refine ifT hm ?_
      obtain ⟨W, hW⟩ := way_last hs
      refine ⟨_, rfl, _, rfl, a, pa, sh, s, π, W, rfl, L23.rep, epa, by rw [wayF_R]; exact hW, fun c rc => ?_⟩
      exact ⟨_, rfl, L23, epa, .inl ⟨c, s, rfl, rc, hs, hn⟩⟩
    · refine ifF hm ⟨_, rfl, L23, epa, .inr ⟨rfl, fun s hs => ?_⟩⟩
      by_cases hn : s = .nil
      · exact hn
      · exact absurd ((mem_pths sh π).mpr ⟨s, hs, hn⟩) hm
  rintro σ' H30 ⟨e, rfl, L30, epa, he⟩
  refine ⟨fun σ' H' => ∃ (e : V), σ' = [some (.ref sc), some (.ref t), some (.ref k), some (.ref a), some (.ref la), some (.str z'), some v, some (.ref pa), some e, none, none, none, none, none] ∧ LawAt H' t k a la two ls sh as ∧ H' pa = some (.tup (π.map V.int)), ?_, ?_⟩
  · rcases he with ⟨c, s, rfl, rc, hs, hn⟩ | ⟨rfl, hn⟩
    · have hsc := last_count hs
      refine ⟨_, rfl, _, rfl, a, pa, sh, π, rfl, L30.rep, epa, by omega, fun W s' eW hs' H' c' g r => ?_, fun h => ?_⟩
      · have e2 := way_inj eW
        rw [hs] at e2
        obtain rfl := Option.some.inj e2
        refine ⟨_, rfl, _, _, rfl, eqd_rep r (rc.same g) (by omega : s.count + 1 ≤ 19), true, rfl, (iteNT ?_ : if (!true) = true then _ else _)⟩
        exact ⟨_, rfl, L30.same g, g _ _ epa⟩
      · rcases way_cases sh π with ⟨e1, _⟩ | ⟨s2, W2, e1, e2⟩
        · rw [e1] at hs; cases hs
        · rcases h with h | ⟨W3, h⟩
          · rw [h] at e2; cases e2
          · have e3 := way_inj h
            rw [hs] at e3
            exact absurd (Option.some.inj e3) hn
    · refine ⟨_, rfl, _, rfl, a, pa, sh, π, rfl, L30.rep, epa, by omega, fun W s' eW hs' H' c' g r => ?_, fun _ H' g => ?_⟩
      · exact absurd (hn s' (way_inj eW)) hs'
      · refine ⟨_, rfl, _, _, rfl, .str _ _, true, rfl, (iteNT ?_ : if (!true) = true then _ else _)⟩
        exact ⟨_, rfl, L30.same g, g _ _ epa⟩
  rintro σ' H31 ⟨e, rfl, L31, epa31⟩
  -- another part
  refine ⟨_, rfl, _, rfl, _, rfl, t, 3, rfl, L31.tape, by decide, by decide, fun H32 z c32 hT32 z0 z3 => ?_⟩
  have L32 := L31.but c32 hT32
  have epa32 := (L31.tape.keepT c32) _ _ epa31
  refine ⟨t, k, z.toNat, two, ls, congrArg (fun y => [V.ref t, V.ref k, V.int y]) (show z = ((z.toNat : Nat) : Int) by omega), L32.tape, L32.kind, by omega, by omega, fun H33 nw u c33 hT33 rnw fnw hcu => ?_⟩
  have L33 := L32.but c33 hT33
  have epa33 := (L32.tape.keepT c33) _ _ epa32
  refine ⟨fun σ' H' => ∃ (b : Bool), σ' = [some (.ref sc), some (.ref t), some (.ref k), some (.ref a), some (.ref la), some (.str z'), some v, some (.ref pa), some e, some (.ref nw), some (.bl b), none, none, none] ∧ LawAt H' t k a la two ls sh as ∧ H' pa = some (.tup (π.map V.int)) ∧ Rep H' nw u ∧ (b = true ↔ ∃ s, lastR sh π = some s), ?_, ?_⟩
  · refine ⟨_, rfl, (by show 0 ≤ sizeLine; exact Nat.zero_le _), fun p1 hp1 => ?_⟩
    have g34 := same_new (o := .tup []) hp1
    have L34 := L33.same g34
    have epa34 := g34 _ _ epa33
    have rnw34 := rnw.same g34
    refine ⟨.tuple (π.map PyData.int), .tuple [], ints_data epa34, .tup (SqT.of upd_same) .nil, ints_shaped π, rfl, PyData.eqv (.tuple (π.map PyData.int)) (.tuple []), rfl, ?_⟩
    generalize upd H33 p1 (.tup []) = H34 at *
    rcases List.eq_nil_or_concat π with hπ | ⟨ρ, x, hπ⟩
    · subst hπ
      exact iteT' ⟨true, rfl, L34, epa34, rnw34, by simp [lastR]⟩
    · rw [List.concat_eq_append] at hπ
      subst hπ
      have hne : PyData.eqv (.tuple ((ρ ++ [x]).map PyData.int)) (.tuple []) = false := by
        cases ρ <;> rfl
      rw [hne]
      refine iteF' ?_
      have hx0 := hpos x (by simp)
      refine ⟨_, rfl, 1, rfl, -1, rfl, init_sl epa34 (by simp) fun p2 H35 g35 e35 => ?_⟩
      rw [← List.map_dropLast, List.dropLast_concat] at e35
      have L35 := L34.same g35
      refine ⟨_, rfl, .tuple (ρ.map PyData.int), (pths [] sh).map (fun π => .tuple (π.map PyData.int)), ints_data e35, .lst (SqL.of L35.list) (paths_data L35.items), ints_shaped ρ, paths_shaped _, _, rfl, ?_⟩
      rw [any_paths]
      have hri := reach_iff L35.fits ρ hx0
      by_cases hm : ρ ∈ pths [] sh
      · refine ifT hm ?_
        obtain ⟨lab, ek, _, _⟩ := L35.kind
        refine ⟨_, rfl, 1, rfl, pa, _, _, _, rfl, rfl, SqT.of (g35 _ _ epa34), (by rw [List.map_append]; exact atI_last _ _), ?_⟩
        refine ⟨_, rfl, k, _, 0, _, rfl, rfl, SqT.of ek, rfl, x, (if two then 2 else 1), rfl, rfl, ?_⟩
        refine ⟨_, rfl, L35, g35 _ _ epa34, rnw34.same g35, ?_⟩
        rw [hri]
        simp [hm]
      · refine ifF hm ⟨_, rfl, L35, g35 _ _ epa34, rnw34.same g35, ?_⟩
        rw [hri]
        simp [hm]
  rintro σ' H36 ⟨b, rfl, L36, epa36, rnw36, hb⟩
  refine ⟨fun σ' H' => ∃ (b : Bool), σ' = [some (.ref sc), some (.ref t), some (.ref k), some (.ref a), some (.ref la), some (.str z'), some v, some (.ref pa), some e, some (.ref nw), some (.bl b), none, none, none] ∧ LawAt H' t k a la two ls sh as, ?_, ?_⟩
  · rcases way_cases sh π with ⟨e1, e2⟩ | ⟨s, W, e1, e2⟩
    · have hbf : b = false := by
        cases b with
        | false => rfl
        | true =>
          obtain ⟨s, hs⟩ := hb.mp rfl
          rw [e1] at hs; cases hs
      subst hbf
      refine ⟨_, rfl, _, rfl, _, rfl, a, pa, nw, sh, u, π, rfl, L36.rep, epa36, rnw36, by omega, fun W r eW _ _ _ _ _ => ?_, fun _ H' g => ?_⟩
      · rw [e2] at eW; cases eW
      · refine ⟨_, rfl, false, rfl, iteF' ⟨_, _, rfl, .str _ _, true, rfl, (iteNT ?_ : if (!true) = true then _ else _)⟩⟩
        exact ⟨_, rfl, L36.same g⟩
    · have hbt : b = true := hb.mpr ⟨s, e1⟩
      subst hbt
      have eR := e2
      rw [wayF_R] at eR
      obtain ⟨r, hr0⟩ := wayR_set u eR
      have hrc := set_count hr0
      refine ⟨_, rfl, _, rfl, _, rfl, a, pa, nw, sh, u, π, rfl, L36.rep, epa36, rnw36, by omega, fun W' r' eW hset H' b1 g rb => ?_, fun h => ?_⟩
      · rw [hr0] at hset
        obtain rfl := Option.some.inj hset
        have L37 := L36.same g
        refine ⟨_, rfl, true, rfl, iteT' ⟨_, rfl, _, rfl, _, rfl, a, pa, nw, sh, u, r, π, rfl, L37.rep, g _ _ epa36, rnw36.same g, by omega, by omega, hr0, fun H'' b2 g2 rb2 => ?_⟩⟩
        refine ⟨_, _, rfl, eqd_rep (rb.same g2) rb2 (by omega : r.count + 1 ≤ 19), true, rfl, (iteNT ?_ : if (!true) = true then _ else _)⟩
        exact ⟨_, rfl, L37.same g2⟩
      · rw [e2] at h; cases h
  clear hb rnw36 epa36 L36 rnw
  rintro σ' H38 ⟨b2, rfl, L38⟩
  -- another value
  refine ⟨fun σ' H' => ∃ (o : V) (x : Vl), σ' = [some (.ref sc), some (.ref t), some (.ref k), some (.ref a), some (.ref la), some (.str z'), some v, some (.ref pa), some e, some (.ref nw), some (.bl b2), some o, none, none] ∧ LawAt H' t k a la two ls sh as ∧ Oth H' o x, ?_, ?_⟩
  · obtain ⟨xs, cs, ex, ed, rk, hx3, hnil⟩ := L38.rep.kids
    refine ⟨_, rfl, _, rfl, (by show 1 ≤ sizeLine; exact small (by decide)), fun t1 h1 => ?_⟩
    have s1 := same_new (o := .tup [.ref a]) h1
    have x1 := upd_same (H := H38) (a := t1) (o := .tup [.ref a])
    generalize upd H38 t1 (.tup [.ref a]) = H39 at *
    refine ⟨(by show 1 ≤ sizeLine; exact small (by decide)), fun t2 h2 => ?_⟩
    have s2 := same_new (o := .tup [.str "q"]) h2
    have x2 := upd_same (H := H39) (a := t2) (o := .tup [.str "q"])
    generalize upd H39 t2 (.tup [.str "q"]) = H40 at *
    refine ⟨_, rfl, 1, rfl, tail_sl ((s1.trans s2) _ _ ex) fun p1 H41 g41 e41 => ?_⟩
    refine cat_tup (g41 _ _ x2) e41 (by rw [List.length_drop]; show 1 + _ ≤ 1000; omega) fun t3 H42 g42 e42 => ?_
    have s14 := ((s1.trans s2).trans g41).trans g42
    refine ⟨_, rfl, (by show 0 ≤ sizeLine; exact Nat.zero_le _), fun q0 hq0 => ⟨(by show 1 ≤ sizeLine; exact small (by decide)), fun q1 hq1 => ?_⟩⟩
    have s5 := same_new (o := .tup []) hq0
    have s6 := same_new (o := .tup [.ref q0]) hq1
    have xq0 := s6 _ _ (upd_same (H := H42) (a := q0) (o := .tup []))
    have xq1 := upd_same (H := upd H42 q0 (.tup [])) (a := q1) (o := .tup [.ref q0])
    have s46 := s5.trans s6
    generalize upd (upd H42 q0 (.tup [])) q1 (.tup [.ref q0]) = H43 at *
    refine cat_tup ((s14.trans s46) _ _ ex) xq1 (by show _ + 1 ≤ 1000; omega) fun t4 H44 g44 e44 => ?_
    refine ⟨_, rfl, (by show 2 ≤ sizeLine; exact small (by decide)), fun t5 h5 => ?_⟩
    have s7 := same_new (o := .tup [.str "a", .ref a]) h5
    have x5 := upd_same (H := H44) (a := t5) (o := .tup [.str "a", .ref a])
    generalize upd H44 t5 (.tup [.str "a", .ref a]) = H45 at *
    refine ⟨_, rfl, (by show 3 ≤ sizeLine; exact small (by decide)), fun t6 h6 => ?_⟩
    have s8 := same_new (o := .tup [.str "a", .str "b", .ref a]) h6
    have x6 := upd_same (H := H45) (a := t6) (o := .tup [.str "a", .str "b", .ref a])
    generalize upd H45 t6 (.tup [.str "a", .str "b", .ref a]) = H46 at *
    refine ⟨(by show 6 ≤ sizeLine; exact small (by decide)), fun L hL => ?_⟩
    have s9 := same_new (o := .lst [.ref a, .ref t1, .ref t3, .ref t4, .ref t5, .ref t6]) hL
    have xL := upd_same (H := H46) (a := L) (o := .lst [.ref a, .ref t1, .ref t3, .ref t4, .ref t5, .ref t6])
    generalize upd H46 L (.lst [.ref a, .ref t1, .ref t3, .ref t4, .ref t5, .ref t6]) = H47 at *
    have r57 := s7.trans (s8.trans s9)
    have r47 := g44.trans r57
    have r37 := s46.trans r47
    have rall := s14.trans r37
    have L47 := L38.same rall
    refine ⟨_, rfl, t, 6, rfl, L47.tape, by decide, by decide, fun H48 d c48 hT48 d0 d6 => ?_⟩
    have L48 := L47.but c48 hT48
    have kk := L47.tape.keepT c48
    have o48 := hones
    have hdl := data_lay' hones (by omega)
    have y3 := kk _ _ (r37 _ _ e42)
    have y4 := kk _ _ (r57 _ _ e44)
    have yq := kk _ _ (r47 _ _ xq0)
    have eL48 := c48 _ _ (nt L47 xL) xL
    have hsz := toV_size sh
    have main : ∃ (o : Addr) (x : Vl), atI [V.ref a, .ref t1, .ref t3, .ref t4, .ref t5, .ref t6] d = some (.ref o) ∧ Oth H48 (.ref o) x := by
      have hd : d = ((0 : Nat) : Int) ∨ d = ((1 : Nat) : Int) ∨ d = ((2 : Nat) : Int) ∨ d = ((3 : Nat) : Int) ∨ d = ((4 : Nat) : Int) ∨ d = ((5 : Nat) : Int) := by omega
      rcases hd with rfl | rfl | rfl | rfl | rfl | rfl
      · exact ⟨a, toV sh, atI_nat rfl, L48.rep.toV, by omega, .inl (toV_good hones)⟩
      · refine ⟨t1, .oth, atI_nat rfl, ?_⟩
        refine oth_mk (kk _ _ (s2.trans (g41.trans (g42.trans r37)) _ _ x1)) (by simp) (by simp) (by simp) (by simp) (ds := [data sh]) (fun K H' g => .cons (L48.rep.same g).data .nil) (fun d hd => ?_) (by simp)
        rw [List.mem_singleton.mp hd]
        exact hdl
      · refine ⟨t3, ?_⟩
        have rp := L48.rep
        have ex48 := kk _ _ (rall _ _ ex)
        cases rp with
        | nil h =>
          rw [ex48] at h
          cases h
          refine ⟨.oth, atI_nat rfl, ?_⟩
          exact oth_mk y3 (by simp) (by simp) (by simp) (by simp) (ds := [.str "q"]) (fun K H' g => .cons (.str _) .nil) (fun d hd => by rw [List.mem_singleton.mp hd]; exact ⟨q_ok, by simp [PyData.depth]⟩) (by simp)
        | @word _ c1 l u h r' =>
          rw [ex48] at h
          cases h
          refine ⟨.one "q" (toV u), atI_nat rfl, .one y3 r'.toV, ?_, .inl ⟨q_ok, toV_good hones.2⟩⟩
          have := toV_size u
          simp only [Sh.count] at hcnt
          simp only [Vl.size]
          omega
        | @tree _ c1 c2 l u1 u2 h r1 r2 =>
          rw [ex48] at h
          cases h
          refine ⟨.two "q" (toV u1) (toV u2), atI_nat rfl, .two y3 r1.toV r2.toV, ?_, .inl ⟨q_ok, toV_good hones.2.1, toV_good hones.2.2⟩⟩
          have := toV_size u1
          have := toV_size u2
          simp only [Sh.count] at hcnt
          simp only [Vl.size]
          omega
      · refine ⟨t4, ?_⟩
        have rp := L48.rep
        have ex48 := kk _ _ (rall _ _ ex)
        cases rp with
        | nil h =>
          rw [ex48] at h
          cases h
          refine ⟨.oth, atI_nat rfl, ?_⟩
          exact oth_mk y4 (by simp) (by simp) (by simp) (by simp) (ds := [.tuple []]) (fun K H' g => .cons (.tup (SqT.of (g _ _ yq)) .nil) .nil) (fun d hd => by rw [List.mem_singleton.mp hd]; exact ⟨rfl, by simp [PyData.depth, PyData.depthAll]⟩) (by simp)
        | @word _ c1 l u h r' =>
          rw [ex48] at h
          cases h
          refine ⟨.two l (toV u) .emp, atI_nat rfl, .two y4 r'.toV (.emp yq), ?_, .inl ⟨hones.1.2, toV_good hones.2, True.intro⟩⟩
          have := toV_size u
          simp only [Sh.count] at hcnt
          simp only [Vl.size]
          omega
        | @tree _ c1 c2 l u1 u2 h r1 r2 =>
          rw [ex48] at h
          cases h
          refine ⟨.oth, atI_nat rfl, ?_⟩
          have d1 := data_lay' hones.2.1 (by simp only [Sh.count] at hcnt; omega)
          have d2 := data_lay' hones.2.2 (by simp only [Sh.count] at hcnt; omega)
          refine oth_mk y4 (by simp) (by simp) (by simp) (by simp) (ds := [.str l, data u1, data u2, .tuple []]) (fun K H' g => .cons (.str _) (.cons (r1.same g).data (.cons (r2.same g).data (.cons (.tup (SqT.of (g _ _ yq)) .nil) .nil)))) (fun d hd => ?_) (by simp)
          simp only [List.mem_cons, List.not_mem_nil, or_false] at hd
          rcases hd with rfl | rfl | rfl | rfl
          · exact ⟨hones.1.2, by simp [PyData.depth]⟩
          · exact d1
          · exact d2
          · exact ⟨rfl, by simp [PyData.depth, PyData.depthAll]⟩
      · exact ⟨t5, .one "a" (toV sh), atI_nat rfl, .one (kk _ _ ((s8.trans s9) _ _ x5)) L48.rep.toV, by simp only [Vl.size]; omega, .inl ⟨a_ok, toV_good hones⟩⟩
      · exact ⟨t6, .two "a" (.str "b") (toV sh), atI_nat rfl, .two (kk _ _ (s9 _ _ x6)) (.str _) L48.rep.toV, by simp only [Vl.size]; omega, .inl ⟨a_ok, b_ok, toV_good hones⟩⟩
    obtain ⟨o, x, hat, ho⟩ := main
    exact ⟨L, _, _, _, rfl, rfl, SqL.of eL48, hat, _, x, rfl, L48, ho⟩
  rintro σ' H49 ⟨o, x, rfl, L49, ho⟩
  refine ⟨_, rfl, _, rfl, k, o, two, ls, x, rfl, L49.kind, ho.1, by have := ho.2.1; omega, fun H50 g50 => ?_⟩
  have L50 := L49.same g50
  have ho50 := ho.same g50
  refine ⟨_, rfl, _, rfl, k, o, two, ls, x, rfl, L50.kind, ho50.1, by have := ho.2.1; omega, by have := ho.2.1; omega, ho50.2.2, fun H51 g51 => ?_⟩
  have L51 := L50.same g51
  refine ⟨_, _, rfl, .bl _ _, true, rfl, (iteNT ?_ : if (!true) = true then _ else _)⟩
  refine ⟨(by show 1 ≤ sizeLine; exact small (by decide)), fun i1 hi1 => ⟨(by show 2 ≤ sizeLine; exact small (by decide)), fun o1 ho1 => ?_⟩⟩
  obtain ⟨gj1, kb1⟩ := kbad_mk (z := 3) (ls := ["a"]) (xs := [.str "a"]) rfl hi1 ho1 (by simp [B3])
  generalize upd (upd H51 i1 (.tup [.str "a"])) o1 (.tup [.int 3, .ref i1]) = J1 at *
  refine ⟨(by show 1 ≤ sizeLine; exact small (by decide)), fun i2 hi2 => ⟨(by show 2 ≤ sizeLine; exact small (by decide)), fun o2 ho2 => ?_⟩⟩
  obtain ⟨gj2, kb2⟩ := kbad_mk (z := 0) (ls := ["a"]) (xs := [.str "a"]) rfl hi2 ho2 (by simp [B3])
  generalize upd (upd J1 i2 (.tup [.str "a"])) o2 (.tup [.int 0, .ref i2]) = J2 at *
  refine ⟨(by show 0 ≤ sizeLine; exact Nat.zero_le _), fun i3 hi3 => ⟨(by show 2 ≤ sizeLine; exact small (by decide)), fun o3 ho3 => ?_⟩⟩
  obtain ⟨gj3, kb3⟩ := kbad_mk (z := 1) (ls := []) (xs := []) rfl hi3 ho3 (by simp [B3])
  generalize upd (upd J2 i3 (.tup [])) o3 (.tup [.int 1, .ref i3]) = J3 at *
  refine ⟨(by show 2 ≤ sizeLine; exact small (by decide)), fun i4 hi4 => ⟨(by show 2 ≤ sizeLine; exact small (by decide)), fun o4 ho4 => ?_⟩⟩
  obtain ⟨gj4, kb4⟩ := kbad_mk (z := 2) (ls := ["b", "a"]) (xs := [.str "b", .str "a"]) rfl hi4 ho4 (by simp [B3])
  generalize upd (upd J3 i4 (.tup [.str "b", .str "a"])) o4 (.tup [.int 2, .ref i4]) = J4 at *
  refine ⟨(by show 2 ≤ sizeLine; exact small (by decide)), fun i5 hi5 => ⟨(by show 2 ≤ sizeLine; exact small (by decide)), fun o5 ho5 => ?_⟩⟩
  obtain ⟨gj5, kb5⟩ := kbad_mk (z := 1) (ls := ["a", "a"]) (xs := [.str "a", .str "a"]) rfl hi5 ho5 (by simp [B3])
  generalize upd (upd J4 i5 (.tup [.str "a", .str "a"])) o5 (.tup [.int 1, .ref i5]) = J5 at *
  refine ⟨(by show 1 ≤ sizeLine; exact small (by decide)), fun i6 hi6 => ⟨(by show 2 ≤ sizeLine; exact small (by decide)), fun o6 ho6 => ?_⟩⟩
  obtain ⟨gj6, kb6⟩ := kbad_mk (z := 1) (ls := ["ab"]) (xs := [.str "ab"]) rfl hi6 ho6 (by simp [B3])
  generalize upd (upd J5 i6 (.tup [.str "ab"])) o6 (.tup [.int 1, .ref i6]) = J6 at *
  refine ⟨(by show 1 ≤ sizeLine; exact small (by decide)), fun i7 hi7 => ⟨(by show 2 ≤ sizeLine; exact small (by decide)), fun o7 ho7 => ?_⟩⟩
  obtain ⟨gj7, kb7⟩ := kbad_mk (z := 2) (ls := ["A"]) (xs := [.str "A"]) rfl hi7 ho7 (by simp [B3])
  generalize upd (upd J6 i7 (.tup [.str "A"])) o7 (.tup [.int 2, .ref i7]) = J7 at *
  refine ⟨(by show 7 ≤ sizeLine; exact small (by decide)), fun Lw hLw => ?_⟩
  have gw := same_new (o := .lst [.ref o1, .ref o2, .ref o3, .ref o4, .ref o5, .ref o6, .ref o7]) hLw
  have eLw := upd_same (H := J7) (a := Lw) (o := .lst [.ref o1, .ref o2, .ref o3, .ref o4, .ref o5, .ref o6, .ref o7])
  generalize upd J7 Lw (.lst [.ref o1, .ref o2, .ref o3, .ref o4, .ref o5, .ref o6, .ref o7]) = J8 at *
  refine ⟨_, rfl, .inl ⟨rfl, _, SqL.of eLw⟩, (by show 4 ≤ sizeLine; exact small (by decide)), fun i8 hi8 => ⟨(by show 2 ≤ sizeLine; exact small (by decide)), fun o8 ho8 => ?_⟩⟩
  obtain ⟨gj8, kb8⟩ := kbad_mk (z := 1) (ls := ["a", "b", "c", "d"]) (xs := [.str "a", .str "b", .str "c", .str "d"]) rfl hi8 ho8 (by simp [B3])
  generalize upd (upd J8 i8 (.tup [.str "a", .str "b", .str "c", .str "d"])) o8 (.tup [.int 1, .ref i8]) = J9 at *
  have eL9 := gj8 _ _ eLw
  have t1 := gj2.trans (gj3.trans (gj4.trans (gj5.trans (gj6.trans (gj7.trans (gw.trans gj8))))))
  have L9 := L51.same (gj1.trans t1)
  refine ⟨Lw, _, _, rfl, rfl, eL9, small' (by show 7 < 1000; decide), ?_⟩
  have kp := KeepT.put eL9 ([V.ref o1, .ref o2, .ref o3, .ref o4, .ref o5, .ref o6, .ref o7] ++ [V.ref o8])
  have eLa := upd_same (H := J9) (a := Lw) (o := .lst ([V.ref o1, .ref o2, .ref o3, .ref o4, .ref o5, .ref o6, .ref o7] ++ [V.ref o8]))
  have hK9 : KindAt (upd J9 Lw (.lst ([V.ref o1, .ref o2, .ref o3, .ref o4, .ref o5, .ref o6, .ref o7] ++ [V.ref o8]))) k two ls := by
    obtain ⟨lab, e1, e2, e3⟩ := L9.kind
    exact ⟨lab, kp _ _ e1, kp _ _ e2, e3⟩
  have hT9 : TapeOk (upd J9 Lw (.lst ([V.ref o1, .ref o2, .ref o3, .ref o4, .ref o5, .ref o6, .ref o7] ++ [V.ref o8]))) t := by
    obtain ⟨kvs, c, T⟩ := L9.tape
    obtain ⟨ns, e, hn⟩ := T.list
    have htL : t ≠ Lw := fun z => by
      have := T.dict
      rw [z, eL9] at this
      cases this
    have hcL : c ≠ Lw := fun z => by
      rw [z, eL9] at e
      cases ns with
      | nil => cases e
      | cons x r =>
        injection e with e
        injection e with e
        injection e with e _
        cases e
    exact ⟨kvs, c, by rw [upd_ne htL]; exact T.dict, T.len, T.cells, ⟨ns, by rw [upd_ne hcL]; exact e, hn⟩, T.at, T.left, T.seed, T.salt⟩
  have kk : ∀ {j : Hp} {o : Addr}, Same j J9 → KBad j o → KBad (upd J9 Lw (.lst ([V.ref o1, .ref o2, .ref o3, .ref o4, .ref o5, .ref o6, .ref o7] ++ [V.ref o8]))) o := fun {j o} g h => (h.keep (KeepT.of g)).keep kp
  have B1 := kk t1 kb1
  have B2 := kk (gj3.trans (gj4.trans (gj5.trans (gj6.trans (gj7.trans (gw.trans gj8)))))) kb2
  have B3' := kk (gj4.trans (gj5.trans (gj6.trans (gj7.trans (gw.trans gj8))))) kb3
  have B4 := kk (gj5.trans (gj6.trans (gj7.trans (gw.trans gj8)))) kb4
  have B5 := kk (gj6.trans (gj7.trans (gw.trans gj8))) kb5
  have B6 := kk (gj7.trans (gw.trans gj8)) kb6
  have B7 := kk (gw.trans gj8) kb7
  have B8 := kk (Same.refl _) kb8
  generalize upd J9 Lw (.lst ([V.ref o1, .ref o2, .ref o3, .ref o4, .ref o5, .ref o6, .ref o7] ++ [V.ref o8])) = J10 at *
  refine ⟨_, rfl, k, rfl, .inl ⟨two, ls, hK9, fun J11 g11' => ⟨true, rfl, iteT' ?_⟩⟩⟩
  refine ⟨_, rfl, _, rfl, t, 8, rfl, hT9.same g11', by decide, by decide, fun J12 d c12' hT12 d0 d8 => ?_⟩
  have hLt : Lw ≠ t := fun z => by
    obtain ⟨kvs, c, T⟩ := hT9.same g11'
    have e := g11' _ _ eLa
    rw [z, T.dict] at e
    cases e
  have kt := (hT9.same g11').keepT c12'
  have fin : ∃ ob, atI ([V.ref o1, .ref o2, .ref o3, .ref o4, .ref o5, .ref o6, .ref o7] ++ [V.ref o8]) d = some (.ref ob) ∧ KBad J12 ob := by
    have up : ∀ {o : Addr}, KBad J10 o → KBad J12 o := fun h => (h.keep (KeepT.of g11')).keep kt
    have hd : d = ((0 : Nat) : Int) ∨ d = ((1 : Nat) : Int) ∨ d = ((2 : Nat) : Int) ∨ d = ((3 : Nat) : Int) ∨ d = ((4 : Nat) : Int) ∨ d = ((5 : Nat) : Int) ∨ d = ((6 : Nat) : Int) ∨ d = ((7 : Nat) : Int) := by omega
    rcases hd with rfl | rfl | rfl | rfl | rfl | rfl | rfl | rfl
    · exact ⟨o1, atI_nat rfl, up B1⟩
    · exact ⟨o2, atI_nat rfl, up B2⟩
    · exact ⟨o3, atI_nat rfl, up B3'⟩
    · exact ⟨o4, atI_nat rfl, up B4⟩
    · exact ⟨o5, atI_nat rfl, up B5⟩
    · exact ⟨o6, atI_nat rfl, up B6⟩
    · exact ⟨o7, atI_nat rfl, up B7⟩
    · exact ⟨o8, atI_nat rfl, up B8⟩
  obtain ⟨ob, hat, hkb⟩ := fin
  refine ⟨Lw, _, _, _, rfl, rfl, SqL.of (c12' _ _ hLt (g11' _ _ eLa)), hat, ob, rfl, .inr ⟨hkb, fun J13 _ => ⟨false, rfl, ?_⟩⟩⟩
  exact q _
end
end K01
set_option Elab.async false
set_option linter.all false
set_option maxRecDepth 100000
set_option maxHeartbeats 4000000
namespace K01
open PySem PySem.Spec PyProof.Rows L2 LamX
theorem all_mk {l : PySem.W.OpenLaw} {w : World} {K : PySem.W.Frag} {h : Heap} {mg : Str → Option Value} {fa cN cI cK cS : Addr} (X : K.In h) (G : h.Ns mainGlobals mg) (hfa : mg "law" = some (.ref fa))
    {f0 f1 f2 f3 f4 f5 f6 f7 f8 f9 f10 f11 f12 f13 f14 f15 f16 f17 f18 f19 f20 f21 f22 f23 f24 f25 f26 f27 f28 f29 f30 f31 f32 f33 : Addr} {od0 od1 od2 od3 od4 od5 od6 od7 od8 od9 od10 od11 od12 od13 od14 od15 od16 od17 od18 od19 od20 od21 od22 od23 od24 od25 od26 od27 od28 od29 od30 od31 od32 od33 an0 an1 an2 an3 an4 an5 an6 an7 an8 an9 an10 an11 an12 an13 an14 an15 an16 an17 an18 an19 an20 an21 an22 an23 an24 an25 an26 an27 an28 an29 an30 an31 an32 an33 : Option Addr}
    {sl0 sl1 sl2 sl3 sl4 sl5 sl6 sl7 sl8 sl9 sl10 sl11 sl12 sl13 sl14 sl15 sl16 sl17 sl18 sl19 sl20 sl21 sl22 sl23 sl24 sl25 sl26 sl27 sl28 sl29 sl30 sl31 sl32 sl33 : Array (Option Value)}
    {oc0 kV0 dc0 pm0 ct0 cd0 oc1 kV1 dc1 pm1 ct1 cd1 oc2 kV2 dc2 pm2 ct2 cd2 oc3 kV3 dc3 pm3 ct3 cd3 oc4 kV4 dc4 pm4 ct4 cd4 oc5 kV5 dc5 pm5 ct5 cd5 oc6 kV6 dc6 pm6 ct6 cd6 oc7 kV7 dc7 pm7 ct7 cd7 oc8 kV8 dc8 pm8 ct8 cd8 oc9 kV9 dc9 pm9 ct9 cd9 oc10 kV10 dc10 pm10 ct10 cd10 oc11 kV11 dc11 pm11 ct11 cd11 oc12 kV12 dc12 pm12 ct12 cd12 oc13 kV13 dc13 pm13 ct13 cd13 oc14 kV14 dc14 pm14 ct14 cd14 oc15 kV15 dc15 pm15 ct15 cd15 oc16 kV16 dc16 pm16 ct16 cd16 oc17 kV17 dc17 pm17 ct17 cd17 oc18 kV18 dc18 pm18 ct18 cd18 oc19 kV19 dc19 pm19 ct19 cd19 oc20 kV20 dc20 pm20 ct20 cd20 oc21 kV21 dc21 pm21 ct21 cd21 oc22 kV22 dc22 pm22 ct22 cd22 oc23 kV23 dc23 pm23 ct23 cd23 oc24 kV24 dc24 pm24 ct24 cd24 oc25 kV25 dc25 pm25 ct25 cd25 oc26 kV26 dc26 pm26 ct26 cd26 oc27 kV27 dc27 pm27 ct27 cd27 oc28 kV28 dc28 pm28 ct28 cd28 oc29 kV29 dc29 pm29 ct29 cd29 oc30 kV30 dc30 pm30 ct30 cd30 oc31 kV31 dc31 pm31 ct31 cd31 oc32 kV32 dc32 pm32 ct32 cd32 oc33 kV33 dc33 pm33 ct33 cd33 : Value} {tM : Tok}
    (a0 : PySem.W.nsIn K mainGlobals "is_whole" = some (some (.ref f0))) (l0 : K.lookup f0 = some ⟨oc0, od0, .func (PySem.W.fnOf "is_whole" "is_whole" (defArgs sWhole) (defBody sWhole) (defScope sWhole) .none kV0 dc0 pm0 an0 cd0 ct0), sl0⟩) (c0 : PySem.W.codeIn K cd0 "is_whole" = true) (k0 : PySem.W.keepIn K (.ref f0) = true)
    (a1 : PySem.W.nsIn K mainGlobals "is_kind" = some (some (.ref f1))) (l1 : K.lookup f1 = some ⟨oc1, od1, .func (PySem.W.fnOf "is_kind" "is_kind" (defArgs sIsKind) (defBody sIsKind) (defScope sIsKind) .none kV1 dc1 pm1 an1 cd1 ct1), sl1⟩) (c1 : PySem.W.codeIn K cd1 "is_kind" = true) (k1 : PySem.W.keepIn K (.ref f1) = true)
    (a2 : PySem.W.nsIn K mainGlobals "_is_letter" = some (some (.ref f2))) (l2 : K.lookup f2 = some ⟨oc2, od2, .func (PySem.W.fnOf "_is_letter" "_is_letter" (defArgs sLetter) (defBody sLetter) (defScope sLetter) .none kV2 dc2 pm2 an2 cd2 ct2), sl2⟩) (c2 : PySem.W.codeIn K cd2 "_is_letter" = true) (k2 : PySem.W.keepIn K (.ref f2) = true)
    (a3 : PySem.W.nsIn K mainGlobals "check_kind" = some (some (.ref f3))) (l3 : K.lookup f3 = some ⟨oc3, od3, .func (PySem.W.fnOf "check_kind" "check_kind" (defArgs sCheck) (defBody sCheck) (defScope sCheck) .none kV3 dc3 pm3 an3 cd3 ct3), sl3⟩) (c3 : PySem.W.codeIn K cd3 "check_kind" = true) (k3 : PySem.W.keepIn K (.ref f3) = true)
    (a4 : PySem.W.nsIn K mainGlobals "is_shape" = some (some (.ref f4))) (l4 : K.lookup f4 = some ⟨oc4, od4, .func (PySem.W.fnOf "is_shape" "is_shape" (defArgs sIsShape) (defBody sIsShape) (defScope sIsShape) .none kV4 dc4 pm4 an4 cd4 ct4), sl4⟩) (c4 : PySem.W.codeIn K cd4 "is_shape" = true) (k4 : PySem.W.keepIn K (.ref f4) = true)
    (a5 : PySem.W.nsIn K mainGlobals "_parts" = some (some (.ref f5))) (l5 : K.lookup f5 = some ⟨oc5, od5, .func (PySem.W.fnOf "_parts" "_parts" (defArgs sParts) (defBody sParts) (defScope sParts) .none kV5 dc5 pm5 an5 cd5 ct5), sl5⟩) (c5 : PySem.W.codeIn K cd5 "_parts" = true) (k5 : PySem.W.keepIn K (.ref f5) = true)
    (a6 : PySem.W.nsIn K mainGlobals "labels_of" = some (some (.ref f6))) (l6 : K.lookup f6 = some ⟨oc6, od6, .func (PySem.W.fnOf "labels_of" "labels_of" (defArgs sLabels) (defBody sLabels) (defScope sLabels) .none kV6 dc6 pm6 an6 cd6 ct6), sl6⟩) (c6 : PySem.W.codeIn K cd6 "labels_of" = true) (k6 : PySem.W.keepIn K (.ref f6) = true)
    (a7 : PySem.W.nsIn K mainGlobals "folded" = some (some (.ref f7))) (l7 : K.lookup f7 = some ⟨oc7, od7, .func (PySem.W.fnOf "folded" "folded" (defArgs sFold) (defBody sFold) (defScope sFold) .none kV7 dc7 pm7 an7 cd7 ct7), sl7⟩) (c7 : PySem.W.codeIn K cd7 "folded" = true) (k7 : PySem.W.keepIn K (.ref f7) = true)
    (a8 : PySem.W.nsIn K mainGlobals "size" = some (some (.ref f8))) (l8 : K.lookup f8 = some ⟨oc8, od8, .func (PySem.W.fnOf "size" "size" (defArgs sSize) (defBody sSize) (defScope sSize) .none kV8 dc8 pm8 an8 cd8 ct8), sl8⟩) (c8 : PySem.W.codeIn K cd8 "size" = true) (k8 : PySem.W.keepIn K (.ref f8) = true)
    (a9 : PySem.W.nsIn K mainGlobals "paths" = some (some (.ref f9))) (l9 : K.lookup f9 = some ⟨oc9, od9, .func (PySem.W.fnOf "paths" "paths" (defArgs sPaths) (defBody sPaths) (defScope sPaths) .none kV9 dc9 pm9 an9 cd9 ct9), sl9⟩) (c9 : PySem.W.codeIn K cd9 "paths" = true) (k9 : PySem.W.keepIn K (.ref f9) = true)
    (a10 : PySem.W.nsIn K mainGlobals "part" = some (some (.ref f10))) (l10 : K.lookup f10 = some ⟨oc10, od10, .func (PySem.W.fnOf "part" "part" (defArgs sPart) (defBody sPart) (defScope sPart) .none kV10 dc10 pm10 an10 cd10 ct10), sl10⟩) (c10 : PySem.W.codeIn K cd10 "part" = true) (k10 : PySem.W.keepIn K (.ref f10) = true)
    (a11 : PySem.W.nsIn K mainGlobals "with_part" = some (some (.ref f11))) (l11 : K.lookup f11 = some ⟨oc11, od11, .func (PySem.W.fnOf "with_part" "with_part" (defArgs sWithP) (defBody sWithP) (defScope sWithP) .none kV11 dc11 pm11 an11 cd11 ct11), sl11⟩) (c11 : PySem.W.codeIn K cd11 "with_part" = true) (k11 : PySem.W.keepIn K (.ref f11) = true)
    (a12 : PySem.W.nsIn K mainGlobals "_way_to" = some (some (.ref f12))) (l12 : K.lookup f12 = some ⟨oc12, od12, .func (PySem.W.fnOf "_way_to" "_way_to" (defArgs sWay) (defBody sWay) (defScope sWay) .none kV12 dc12 pm12 an12 cd12 ct12), sl12⟩) (c12 : PySem.W.codeIn K cd12 "_way_to" = true) (k12 : PySem.W.keepIn K (.ref f12) = true)
    (a13 : PySem.W.nsIn K mainGlobals "write_shape" = some (some (.ref f13))) (l13 : K.lookup f13 = some ⟨oc13, od13, .func (PySem.W.fnOf "write_shape" "write_shape" (defArgs sWrite) (defBody sWrite) (defScope sWrite) .none kV13 dc13 pm13 an13 cd13 ct13), sl13⟩) (c13 : PySem.W.codeIn K cd13 "write_shape" = true) (k13 : PySem.W.keepIn K (.ref f13) = true)
    (a14 : PySem.W.nsIn K mainGlobals "_text_above" = some (some (.ref f14))) (l14 : K.lookup f14 = some ⟨oc14, od14, .func (PySem.W.fnOf "_text_above" "_text_above" (defArgs sAbove) (defBody sAbove) (defScope sAbove) .none kV14 dc14 pm14 an14 cd14 ct14), sl14⟩) (c14 : PySem.W.codeIn K cd14 "_text_above" = true) (k14 : PySem.W.keepIn K (.ref f14) = true)
    (a15 : PySem.W.nsIn K mainGlobals "read_shape" = some (some (.ref f15))) (l15 : K.lookup f15 = some ⟨oc15, od15, .func (PySem.W.fnOf "read_shape" "read_shape" (defArgs sRead) (defBody sRead) (defScope sRead) .none kV15 dc15 pm15 an15 cd15 ct15), sl15⟩) (c15 : PySem.W.codeIn K cd15 "read_shape" = true) (k15 : PySem.W.keepIn K (.ref f15) = true)
    (a16 : PySem.W.nsIn K mainGlobals "_law_tape" = some (some (.ref f16))) (l16 : K.lookup f16 = some ⟨oc16, od16, .func (PySem.W.fnOf "_law_tape" "_law_tape" (defArgs sTape) (defBody sTape) (defScope sTape) .none kV16 dc16 pm16 an16 cd16 ct16), sl16⟩) (c16 : PySem.W.codeIn K cd16 "_law_tape" = true) (k16 : PySem.W.keepIn K (.ref f16) = true)
    (a17 : PySem.W.nsIn K mainGlobals "_law_take" = some (some (.ref f17))) (l17 : K.lookup f17 = some ⟨oc17, od17, .func (PySem.W.fnOf "_law_take" "_law_take" (defArgs sTake) (defBody sTake) (defScope sTake) .none kV17 dc17 pm17 an17 cd17 ct17), sl17⟩) (c17 : PySem.W.codeIn K cd17 "_law_take" = true) (k17 : PySem.W.keepIn K (.ref f17) = true)
    (a18 : PySem.W.nsIn K mainGlobals "_law_is_integer" = some (some (.ref f18))) (l18 : K.lookup f18 = some ⟨oc18, od18, .func (PySem.W.fnOf "_law_is_integer" "_law_is_integer" (defArgs sLInt) (defBody sLInt) (defScope sLInt) .none kV18 dc18 pm18 an18 cd18 ct18), sl18⟩) (c18 : PySem.W.codeIn K cd18 "_law_is_integer" = true) (k18 : PySem.W.keepIn K (.ref f18) = true)
    (a19 : PySem.W.nsIn K mainGlobals "_law_same_items" = some (some (.ref f19))) (l19 : K.lookup f19 = some ⟨oc19, od19, .func (PySem.W.fnOf "_law_same_items" "_law_same_items" (defArgs sSameItems) (defBody sSameItems) (defScope sSameItems) .none kV19 dc19 pm19 an19 cd19 ct19), sl19⟩) (c19 : PySem.W.codeIn K cd19 "_law_same_items" = true) (k19 : PySem.W.keepIn K (.ref f19) = true)
    (a20 : PySem.W.nsIn K mainGlobals "_law_same" = some (some (.ref f20))) (l20 : K.lookup f20 = some ⟨oc20, od20, .func (PySem.W.fnOf "_law_same" "_law_same" (defArgs sSame) (defBody sSame) (defScope sSame) .none kV20 dc20 pm20 an20 cd20 ct20), sl20⟩) (c20 : PySem.W.codeIn K cd20 "_law_same" = true) (k20 : PySem.W.keepIn K (.ref f20) = true)
    (a21 : PySem.W.nsIn K mainGlobals "_law_kind" = some (some (.ref f21))) (l21 : K.lookup f21 = some ⟨oc21, od21, .func (PySem.W.fnOf "_law_kind" "_law_kind" (defArgs sLKind) (defBody sLKind) (defScope sLKind) .none kV21 dc21 pm21 an21 cd21 ct21), sl21⟩) (c21 : PySem.W.codeIn K cd21 "_law_kind" = true) (k21 : PySem.W.keepIn K (.ref f21) = true)
    (a22 : PySem.W.nsIn K mainGlobals "_law_shape" = some (some (.ref f22))) (l22 : K.lookup f22 = some ⟨oc22, od22, .func (PySem.W.fnOf "_law_shape" "_law_shape" (defArgs sLShape) (defBody sLShape) (defScope sLShape) .none kV22 dc22 pm22 an22 cd22 ct22), sl22⟩) (c22 : PySem.W.codeIn K cd22 "_law_shape" = true) (k22 : PySem.W.keepIn K (.ref f22) = true)
    (a23 : PySem.W.nsIn K mainGlobals "_law_paths" = some (some (.ref f23))) (l23 : K.lookup f23 = some ⟨oc23, od23, .func (PySem.W.fnOf "_law_paths" "_law_paths" (defArgs sLPaths) (defBody sLPaths) (defScope sLPaths) .none kV23 dc23 pm23 an23 cd23 ct23), sl23⟩) (c23 : PySem.W.codeIn K cd23 "_law_paths" = true) (k23 : PySem.W.keepIn K (.ref f23) = true)
    (a24 : PySem.W.nsIn K mainGlobals "_law_part" = some (some (.ref f24))) (l24 : K.lookup f24 = some ⟨oc24, od24, .func (PySem.W.fnOf "_law_part" "_law_part" (defArgs sLPart) (defBody sLPart) (defScope sLPart) .none kV24 dc24 pm24 an24 cd24 ct24), sl24⟩) (c24 : PySem.W.codeIn K cd24 "_law_part" = true) (k24 : PySem.W.keepIn K (.ref f24) = true)
    (a25 : PySem.W.nsIn K mainGlobals "_law_text" = some (some (.ref f25))) (l25 : K.lookup f25 = some ⟨oc25, od25, .func (PySem.W.fnOf "_law_text" "_law_text" (defArgs sLText) (defBody sLText) (defScope sLText) .none kV25 dc25 pm25 an25 cd25 ct25), sl25⟩) (c25 : PySem.W.codeIn K cd25 "_law_text" = true) (k25 : PySem.W.keepIn K (.ref f25) = true)
    (a26 : PySem.W.nsIn K mainGlobals "_law_read" = some (some (.ref f26))) (l26 : K.lookup f26 = some ⟨oc26, od26, .func (PySem.W.fnOf "_law_read" "_law_read" (defArgs sLRead) (defBody sLRead) (defScope sLRead) .none kV26 dc26 pm26 an26 cd26 ct26), sl26⟩) (c26 : PySem.W.codeIn K cd26 "_law_read" = true) (k26 : PySem.W.keepIn K (.ref f26) = true)
    (a27 : PySem.W.nsIn K mainGlobals "_law_try_part" = some (some (.ref f27))) (l27 : K.lookup f27 = some ⟨oc27, od27, .func (PySem.W.fnOf "_law_try_part" "_law_try_part" (defArgs sLTryP) (defBody sLTryP) (defScope sLTryP) .none kV27 dc27 pm27 an27 cd27 ct27), sl27⟩) (c27 : PySem.W.codeIn K cd27 "_law_try_part" = true) (k27 : PySem.W.keepIn K (.ref f27) = true)
    (a28 : PySem.W.nsIn K mainGlobals "_law_try_with" = some (some (.ref f28))) (l28 : K.lookup f28 = some ⟨oc28, od28, .func (PySem.W.fnOf "_law_try_with" "_law_try_with" (defArgs sLTryW) (defBody sLTryW) (defScope sLTryW) .none kV28 dc28 pm28 an28 cd28 ct28), sl28⟩) (c28 : PySem.W.codeIn K cd28 "_law_try_with" = true) (k28 : PySem.W.keepIn K (.ref f28) = true)
    (a29 : PySem.W.nsIn K mainGlobals "_law_with" = some (some (.ref f29))) (l29 : K.lookup f29 = some ⟨oc29, od29, .func (PySem.W.fnOf "_law_with" "_law_with" (defArgs sLWith) (defBody sLWith) (defScope sLWith) .none kV29 dc29 pm29 an29 cd29 ct29), sl29⟩) (c29 : PySem.W.codeIn K cd29 "_law_with" = true) (k29 : PySem.W.keepIn K (.ref f29) = true)
    (a30 : PySem.W.nsIn K mainGlobals "_law_bent" = some (some (.ref f30))) (l30 : K.lookup f30 = some ⟨oc30, od30, .func (PySem.W.fnOf "_law_bent" "_law_bent" (defArgs sBent) (defBody sBent) (defScope sBent) .none kV30 dc30 pm30 an30 cd30 ct30), sl30⟩) (c30 : PySem.W.codeIn K cd30 "_law_bent" = true) (k30 : PySem.W.keepIn K (.ref f30) = true)
    (a31 : PySem.W.nsIn K mainGlobals "_law_is" = some (some (.ref f31))) (l31 : K.lookup f31 = some ⟨oc31, od31, .func (PySem.W.fnOf "_law_is" "_law_is" (defArgs sLIs) (defBody sLIs) (defScope sLIs) .none kV31 dc31 pm31 an31 cd31 ct31), sl31⟩) (c31 : PySem.W.codeIn K cd31 "_law_is" = true) (k31 : PySem.W.keepIn K (.ref f31) = true)
    (a32 : PySem.W.nsIn K mainGlobals "_law_kind_right" = some (some (.ref f32))) (l32 : K.lookup f32 = some ⟨oc32, od32, .func (PySem.W.fnOf "_law_kind_right" "_law_kind_right" (defArgs sLKR) (defBody sLKR) (defScope sLKR) .none kV32 dc32 pm32 an32 cd32 ct32), sl32⟩) (c32 : PySem.W.codeIn K cd32 "_law_kind_right" = true) (k32 : PySem.W.keepIn K (.ref f32) = true)
    (a33 : PySem.W.nsIn K mainGlobals "law" = some (some (.ref f33))) (l33 : K.lookup f33 = some ⟨oc33, od33, .func (PySem.W.fnOf "law" "law" (defArgs sLaw) (defBody sLaw) (defScope sLaw) .none kV33 dc33 pm33 an33 cd33 ct33), sl33⟩) (c33 : PySem.W.codeIn K cd33 "law" = true) (k33 : PySem.W.keepIn K (.ref f33) = true)
    (z_abs : PySem.W.nsIn K mainGlobals "abs" = some none)
    (z_int : PySem.W.nsIn K mainGlobals "int" = some none)
    (z_len : PySem.W.nsIn K mainGlobals "len" = some none)
    (z_isinstance : PySem.W.nsIn K mainGlobals "isinstance" = some none)
    (z_bool : PySem.W.nsIn K mainGlobals "bool" = some none)
    (z_str : PySem.W.nsIn K mainGlobals "str" = some none)
    (z_tuple : PySem.W.nsIn K mainGlobals "tuple" = some none)
    (z_list : PySem.W.nsIn K mainGlobals "list" = some none)
    (z_range : PySem.W.nsIn K mainGlobals "range" = some none)
    (z_all : PySem.W.nsIn K mainGlobals "all" = some none)
    (z_sorted : PySem.W.nsIn K mainGlobals "sorted" = some none)
    (z_set : PySem.W.nsIn K mainGlobals "set" = some none)
    (z_zip : PySem.W.nsIn K mainGlobals "zip" = some none)
    (z_reversed : PySem.W.nsIn K mainGlobals "reversed" = some none)
    (nL : PySem.W.nsIn K mainGlobals "MOST_LABELS" = some (some (.int 3 tM)))
    (aCN : PySem.W.nsIn K mainGlobals "NoSuchElement" = some (some (.ref cN))) (xCN : PySem.W.excIn K cN [.type "ValueError", .type "Exception", .type "BaseException", .type "object"] "ValueError.__new__" = true) (kCN : PySem.W.keepIn K (.ref cN) = true)
    (bCN : PySem.W.subIn K (.ref cN) (.type "BaseException") = some true) (tCN : PySem.W.typeIn K (.ref cN) = some (.type "type")) (eCN : PySem.W.exmOne K (.ref cN) (.ref cN) = some true)
    (aCI : PySem.W.nsIn K mainGlobals "InvalidShape" = some (some (.ref cI))) (xCI : PySem.W.excIn K cI [.type "ValueError", .type "Exception", .type "BaseException", .type "object"] "ValueError.__new__" = true) (kCI : PySem.W.keepIn K (.ref cI) = true)
    (bCI : PySem.W.subIn K (.ref cI) (.type "BaseException") = some true) (tCI : PySem.W.typeIn K (.ref cI) = some (.type "type")) (eCI : PySem.W.exmOne K (.ref cI) (.ref cI) = some true)
    (aCK : PySem.W.nsIn K mainGlobals "InvalidKind" = some (some (.ref cK))) (xCK : PySem.W.excIn K cK [.type "ValueError", .type "Exception", .type "BaseException", .type "object"] "ValueError.__new__" = true) (kCK : PySem.W.keepIn K (.ref cK) = true)
    (bCK : PySem.W.subIn K (.ref cK) (.type "BaseException") = some true) (tCK : PySem.W.typeIn K (.ref cK) = some (.type "type")) (eCK : PySem.W.exmOne K (.ref cK) (.ref cK) = some true)
    (aS : PySem.W.nsIn K mainGlobals "SayError" = some (some (.ref cS))) (kS : PySem.W.kitOne K (.ref cI) (.ref cS) = some true)
    (e1 : PySem.W.findIn K (.ref cI) "__getattribute__" = some (some (.builtin "BaseException.__getattribute__"))) (e2 : PySem.W.findIn K (.ref cI) "__getattr__" = some none) (e4 : PySem.W.hasDictIn K cI = true)
    (e5 : PySem.W.findIn K (.ref cI) "__class__" = some (some (.builtin "object.__class__"))) (e6 : PySem.W.specialIn K (.builtin "object.__class__") "__get__" = some (some (.builtin "getset_descriptor.__get__"))) (e7 : PySem.W.takesIn K (.builtin "object.__class__") = some true) (e8 : PySem.W.mroIn K cI (.type "object") = some true) :
    LawAtS l w K CX0 41 63 "script" mg fa h := by
  have TN : ExcT K mg "NoSuchElement" cN := ⟨xCN, PySem.W.mg_of X G aCN, kCN, bCN, tCN, eCN⟩
  have TI : ExcT K mg "InvalidShape" cI := ⟨xCI, PySem.W.mg_of X G aCI, kCI, bCI, tCI, eCI⟩
  have TK : ExcT K mg "InvalidKind" cK := ⟨xCK, PySem.W.mg_of X G aCK, kCK, bCK, tCK, eCK⟩
  have TC : ExcC K cI := ⟨e1, e2, bCI, e4, e5, e6, e7, e8⟩
  have m0 := PySem.W.mg_of X G a0
  have m1 := PySem.W.mg_of X G a1
  have m2 := PySem.W.mg_of X G a2
  have m3 := PySem.W.mg_of X G a3
  have m4 := PySem.W.mg_of X G a4
  have m5 := PySem.W.mg_of X G a5
  have m6 := PySem.W.mg_of X G a6
  have m7 := PySem.W.mg_of X G a7
  have m8 := PySem.W.mg_of X G a8
  have m9 := PySem.W.mg_of X G a9
  have m10 := PySem.W.mg_of X G a10
  have m11 := PySem.W.mg_of X G a11
  have m12 := PySem.W.mg_of X G a12
  have m13 := PySem.W.mg_of X G a13
  have m14 := PySem.W.mg_of X G a14
  have m15 := PySem.W.mg_of X G a15
  have m16 := PySem.W.mg_of X G a16
  have m17 := PySem.W.mg_of X G a17
  have m18 := PySem.W.mg_of X G a18
  have m19 := PySem.W.mg_of X G a19
  have m20 := PySem.W.mg_of X G a20
  have m21 := PySem.W.mg_of X G a21
  have m22 := PySem.W.mg_of X G a22
  have m23 := PySem.W.mg_of X G a23
  have m24 := PySem.W.mg_of X G a24
  have m25 := PySem.W.mg_of X G a25
  have m26 := PySem.W.mg_of X G a26
  have m27 := PySem.W.mg_of X G a27
  have m28 := PySem.W.mg_of X G a28
  have m29 := PySem.W.mg_of X G a29
  have m30 := PySem.W.mg_of X G a30
  have m31 := PySem.W.mg_of X G a31
  have m32 := PySem.W.mg_of X G a32
  have m33 := PySem.W.mg_of X G a33
  have y_abs := PySem.W.mg_none_of X G z_abs
  have y_int := PySem.W.mg_none_of X G z_int
  have y_len := PySem.W.mg_none_of X G z_len
  have y_isinstance := PySem.W.mg_none_of X G z_isinstance
  have y_bool := PySem.W.mg_none_of X G z_bool
  have y_str := PySem.W.mg_none_of X G z_str
  have y_tuple := PySem.W.mg_none_of X G z_tuple
  have y_list := PySem.W.mg_none_of X G z_list
  have y_range := PySem.W.mg_none_of X G z_range
  have y_all := PySem.W.mg_none_of X G z_all
  have y_sorted := PySem.W.mg_none_of X G z_sorted
  have y_set := PySem.W.mg_none_of X G z_set
  have y_zip := PySem.W.mg_none_of X G z_zip
  have y_reversed := PySem.W.mg_none_of X G z_reversed
  have yL := PySem.W.mg_of X G nL
  have yS := PySem.W.mg_of X G aS
  have e := hfa.symm.trans m33
  cases e
  have F0 := fun_mk (st := sWhole) l0 c0 k0
  have F1 := fun_mk (st := sIsKind) l1 c1 k1
  have F2 := fun_mk (st := sLetter) l2 c2 k2
  have F3 := fun_mk (st := sCheck) l3 c3 k3
  have F4 := fun_mk (st := sIsShape) l4 c4 k4
  have F5 := fun_mk (st := sParts) l5 c5 k5
  have F6 := fun_mk (st := sLabels) l6 c6 k6
  have F7 := fun_mk (st := sFold) l7 c7 k7
  have F8 := fun_mk (st := sSize) l8 c8 k8
  have F9 := fun_mk (st := sPaths) l9 c9 k9
  have F10 := fun_mk (st := sPart) l10 c10 k10
  have F11 := fun_mk (st := sWithP) l11 c11 k11
  have F12 := fun_mk (st := sWay) l12 c12 k12
  have F13 := fun_mk (st := sWrite) l13 c13 k13
  have F14 := fun_mk (st := sAbove) l14 c14 k14
  have F15 := fun_mk (st := sRead) l15 c15 k15
  have F16 := fun_mk (st := sTape) l16 c16 k16
  have F17 := fun_mk (st := sTake) l17 c17 k17
  have F18 := fun_mk (st := sLInt) l18 c18 k18
  have F19 := fun_mk (st := sSameItems) l19 c19 k19
  have F20 := fun_mk (st := sSame) l20 c20 k20
  have F21 := fun_mk (st := sLKind) l21 c21 k21
  have F22 := fun_mk (st := sLShape) l22 c22 k22
  have F23 := fun_mk (st := sLPaths) l23 c23 k23
  have F24 := fun_mk (st := sLPart) l24 c24 k24
  have F25 := fun_mk (st := sLText) l25 c25 k25
  have F26 := fun_mk (st := sLRead) l26 c26 k26
  have F27 := fun_mk (st := sLTryP) l27 c27 k27
  have F28 := fun_mk (st := sLTryW) l28 c28 k28
  have F29 := fun_mk (st := sLWith) l29 c29 k29
  have F30 := fun_mk (st := sBent) l30 c30 k30
  have F31 := fun_mk (st := sLIs) l31 c31 k31
  have F32 := fun_mk (st := sLKR) l32 c32 k32
  have F33 := fun_mk (st := sLaw) l33 c33 k33
  have b0 := F0.binds (ps := ["value"]) fun _ _ _ _ _ _ us hl => match us, hl with | [_], _ => rfl
  have b1 := F1.binds (ps := ["value"]) fun _ _ _ _ _ _ us hl => match us, hl with | [_], _ => rfl
  have b2 := F2.binds (ps := ["value"]) fun _ _ _ _ _ _ us hl => match us, hl with | [_], _ => rfl
  have b3 := F3.binds (ps := ["kind"]) fun _ _ _ _ _ _ us hl => match us, hl with | [_], _ => rfl
  have b4 := F4.binds (ps := ["kind", "value"]) fun _ _ _ _ _ _ us hl => match us, hl with | [_, _], _ => rfl
  have b5 := F5.binds (ps := ["shape"]) fun _ _ _ _ _ _ us hl => match us, hl with | [_], _ => rfl
  have b6 := F6.binds (ps := ["shape"]) fun _ _ _ _ _ _ us hl => match us, hl with | [_], _ => rfl
  have b7 := F7.binds (ps := ["shape", "bottom", "above"]) fun _ _ _ _ _ _ us hl => match us, hl with | [_, _, _], _ => rfl
  have b8 := F8.binds (ps := ["shape"]) fun _ _ _ _ _ _ us hl => match us, hl with | [_], _ => rfl
  have b9 := F9.binds (ps := ["shape"]) fun _ _ _ _ _ _ us hl => match us, hl with | [_], _ => rfl
  have b10 := F10.binds (ps := ["shape", "path"]) fun _ _ _ _ _ _ us hl => match us, hl with | [_, _], _ => rfl
  have b11 := F11.binds (ps := ["shape", "path", "new"]) fun _ _ _ _ _ _ us hl => match us, hl with | [_, _, _], _ => rfl
  have b12 := F12.binds (ps := ["shape", "path"]) fun _ _ _ _ _ _ us hl => match us, hl with | [_, _], _ => rfl
  have b13 := F13.binds (ps := ["shape"]) fun _ _ _ _ _ _ us hl => match us, hl with | [_], _ => rfl
  have b14 := F14.binds (ps := ["label", "texts"]) fun _ _ _ _ _ _ us hl => match us, hl with | [_, _], _ => rfl
  have b15 := F15.binds (ps := ["kind", "text"]) fun _ _ _ _ _ _ us hl => match us, hl with | [_, _], _ => rfl
  have b16 := F16.binds (ps := ["script"]) fun _ _ _ _ _ _ us hl => match us, hl with | [_], _ => rfl
  have b17 := F17.binds (ps := ["tape", "many"]) fun _ _ _ _ _ _ us hl => match us, hl with | [_, _], _ => rfl
  have b18 := F18.binds (ps := ["actual"]) fun _ _ _ _ _ _ us hl => match us, hl with | [_], _ => rfl
  have b19 := F19.binds (ps := ["actual", "expected"]) fun _ _ _ _ _ _ us hl => match us, hl with | [_, _], _ => rfl
  have b20 := F20.binds (ps := ["actual", "expected"]) fun _ _ _ _ _ _ us hl => match us, hl with | [_, _], _ => rfl
  have b21 := F21.binds (ps := ["tape"]) fun _ _ _ _ _ _ us hl => match us, hl with | [_], _ => rfl
  have b22 := F22.binds (ps := ["tape", "kind", "count"]) fun _ _ _ _ _ _ us hl => match us, hl with | [_, _, _], _ => rfl
  have b23 := F23.binds (ps := ["shape", "path"]) fun _ _ _ _ _ _ us hl => match us, hl with | [_, _], _ => rfl
  have b24 := F24.binds (ps := ["shape", "path"]) fun _ _ _ _ _ _ us hl => match us, hl with | [_, _], _ => rfl
  have b25 := F25.binds (ps := ["shape"]) fun _ _ _ _ _ _ us hl => match us, hl with | [_], _ => rfl
  have b26 := F26.binds (ps := ["kind", "text"]) fun _ _ _ _ _ _ us hl => match us, hl with | [_, _], _ => rfl
  have b27 := F27.binds (ps := ["shape", "path"]) fun _ _ _ _ _ _ us hl => match us, hl with | [_, _], _ => rfl
  have b28 := F28.binds (ps := ["shape", "path", "new"]) fun _ _ _ _ _ _ us hl => match us, hl with | [_, _, _], _ => rfl
  have b29 := F29.binds (ps := ["shape", "path", "new"]) fun _ _ _ _ _ _ us hl => match us, hl with | [_, _, _], _ => rfl
  have b30 := F30.binds (ps := ["tape", "text"]) fun _ _ _ _ _ _ us hl => match us, hl with | [_, _], _ => rfl
  have b31 := F31.binds (ps := ["kind", "value"]) fun _ _ _ _ _ _ us hl => match us, hl with | [_, _], _ => rfl
  have b32 := F32.binds (ps := ["kind"]) fun _ _ _ _ _ _ us hl => match us, hl with | [_], _ => rfl
  refine ⟨PySem.W.fnOf "law" "law" (defArgs sLaw) (defBody sLaw) (defScope sLaw) .none kV33 dc33 pm33 an33 cd33 ct33, [], spLaw K, fun p hp => ?_, fun p hp => ?_, fun p hp => ?_, fun s v => .of_eq rfl, fun H a ns hn _ hT hS => ?_, fun base _ _ hB => ?_⟩
  · cases hp
  · cases hp
  · cases hp
  · exact ⟨a, ns, rfl, hS, hn, fun _ => rfl⟩
  · have GTape := ok_tape (P := l.prog) (w := w) (base := base) (k := 0) F16 y_abs y_int
    have GTakeC := ok_takeC (P := l.prog) (w := w) (base := base) (k := 0) F17 y_len y_int
    have GTake := ok_take (P := l.prog) (w := w) (base := base) (k := 0) F17 y_len y_int
    have GInt := ok_lint (P := l.prog) (w := w) (base := base) (k := 0) F18 y_isinstance y_bool y_int
    have GSame := same_all (P := l.prog) (w := w) (base := base) F20 b20 m20 F19 b19 m19 y_len y_range y_isinstance y_bool y_int y_str y_tuple y_list GInt b18 k18 m18 20
    have GParts := ok_parts (P := l.prog) (w := w) (base := base) (k := 0) F5 y_list y_reversed
    have GLabels := ok_labels (P := l.prog) (w := w) (base := base) F6 GParts b5 k5 m5
    have GSize := ok_size (P := l.prog) (w := w) (base := base) F8 GLabels b6 k6 m6 y_len
    have GPaths := ok_paths (P := l.prog) (w := w) (base := base) (k := 0) F9 y_len y_reversed y_range
    have GAbove := ok_above (P := l.prog) (w := w) (base := base) (k := 0) F14 y_len
    have GFold := ok_fold (P := l.prog) (w := w) (base := base) F7 GAbove b14 k14 GParts b5 k5 m5 y_reversed
    have GWrite := ok_write (P := l.prog) (w := w) (base := base) F13 GFold b7 k7 m7 m14
    have GWay := ok_way (P := l.prog) (w := w) (base := base) (k := 0) F12 TN y_len
    have GPart := ok_part (P := l.prog) (w := w) (base := base) F10 TN GWay b12 k12 m12
    have GWithP := ok_withp (P := l.prog) (w := w) (base := base) F11 GWay b12 k12 m12 y_reversed y_list y_zip
    have GTryP := ok_ltryp (P := l.prog) (w := w) (base := base) F27 TN GPart b10 k10 m10
    have GTryW := ok_ltryw (P := l.prog) (w := w) (base := base) F28 TN GWithP b11 k11 m11
    have GWhole := ok_whole (P := l.prog) (w := w) (base := base) (k := 0) F0 y_isinstance y_bool y_int
    have GLetter := ok_letter (P := l.prog) (w := w) (base := base) (k := 0) F2 y_isinstance y_str y_len
    have GLetterB := ok_letterB (P := l.prog) (w := w) (base := base) (k := 0) F2 y_isinstance y_str y_len
    have GIsKind := ok_isKind (P := l.prog) (w := w) (base := base) F1 GWhole b0 k0 m0 GLetter b2 k2 m2 y_isinstance y_tuple y_len y_all y_list y_sorted y_set yL
    have GIsKindB := ok_isKindB (P := l.prog) (w := w) (base := base) F1 GWhole b0 k0 m0 GLetterB b2 k2 m2 y_isinstance y_tuple y_len y_all y_list y_sorted y_set yL
    have GCheck := ok_check (P := l.prog) (w := w) (base := base) F3 GIsKind b1 k1 m1
    have GCheckX := ok_checkX (P := l.prog) (w := w) (base := base) F3 TK (fn_or GIsKind GIsKindB) b1 k1 m1
    have GLKR := ok_lkr (P := l.prog) (w := w) (base := base) F32 TK GCheckX b3 k3 m3
    have GIsShape := ok_isShape (P := l.prog) (w := w) (base := base) F4 GCheck b3 k3 m3 y_len y_isinstance y_tuple
    have GRead := ok_read (P := l.prog) (w := w) (base := base) F15 TI GCheck b3 k3 m3 GWrite b13 k13 m13 y_len y_reversed y_range
    have GLRead := ok_lread (P := l.prog) (w := w) (base := base) F26 TI TC yS kS GRead b15 k15 m15 y_isinstance
    have GReadQ := fn_readQ GRead
    have GKind := ok_lkind (P := l.prog) (w := w) (base := base) F21 GTake b17 k17 m17
    have GShape := all_lshape (P := l.prog) (w := w) (base := base) F22 b22 m22 GTake b17 k17 m17 y_len 13
    have GLPaths := all_lpaths (P := l.prog) (w := w) (base := base) F23 b23 m23 y_len y_range 13
    have GText := all_ltext (P := l.prog) (w := w) (base := base) F25 b25 m25 y_len 14
    have GBent := ok_bent (P := l.prog) (w := w) (base := base) F30 GTake b17 k17 m17 y_len
    have GLIs := all_lis (P := l.prog) (w := w) (base := base) F31 b31 m31 y_len y_isinstance y_tuple 30
    have GLPart := ok_lpart (P := l.prog) (w := w) (base := base) (mg := mg) (k := 0) F24
    have GLWith := all_lwith (P := l.prog) (w := w) (base := base) F29 b29 m29 20
    exact ok_law F33 GTape b16 k16 m16 GKind b21 k21 m21 GTake b17 k17 m17 GTakeC GShape b22 k22 m22 GLPaths b23 k23 m23 GSame b20 k20 m20 GWrite b13 k13 m13 GSize b8 k8 m8 GPaths b9 k9 m9 GText b25 k25 m25 GReadQ b15 k15 m15 GBent b30 k30 m30 GLRead b26 k26 m26 GLIs b31 k31 m31 GLPart b24 k24 m24 GTryP b27 k27 m27 GTryW b28 k28 m28 GLWith b29 k29 m29 GIsShape b4 k4 m4 GLKR b32 k32 m32 y_len y_sorted y_tuple y_range
end K01
set_option Elab.async false
open PySem PySem.W PyProof.Rows
set_option maxRecDepth 100000 in
set_option maxHeartbeats 0 in
theorem PySem.Challenge.cw_treesays_k01_shapes_and_their_texts_holds : PySem.Challenge.rw_treesays_k01_shapes_and_their_texts.Holds := by
  w_on; o_law; k_head; (case hw => w_witness2)
  k_fill
  refine LamX.walk_ofTs (l := PySem.Challenge.rw_treesays_k01_shapes_and_their_texts) (n := 63) (k := 41) (x := "script") (CX := fun _ => L2.CX0) rfl (by decide) rfl ⟨rfl, by decide, by decide⟩ (fun w h Y => PySem.W.kIn_of Y) ?F (fun _ _ _ _ _ h => h)
  case F =>
    intro w mg fa h Y KX G hmg
    refine' K01.all_mk KX G hmg ?a0 ?l0 ?c0 ?k0 ?a1 ?l1 ?c1 ?k1 ?a2 ?l2 ?c2 ?k2 ?a3 ?l3 ?c3 ?k3 ?a4 ?l4 ?c4 ?k4 ?a5 ?l5 ?c5 ?k5 ?a6 ?l6 ?c6 ?k6 ?a7 ?l7 ?c7 ?k7 ?a8 ?l8 ?c8 ?k8 ?a9 ?l9 ?c9 ?k9 ?a10 ?l10 ?c10 ?k10 ?a11 ?l11 ?c11 ?k11 ?a12 ?l12 ?c12 ?k12 ?a13 ?l13 ?c13 ?k13 ?a14 ?l14 ?c14 ?k14 ?a15 ?l15 ?c15 ?k15 ?a16 ?l16 ?c16 ?k16 ?a17 ?l17 ?c17 ?k17 ?a18 ?l18 ?c18 ?k18 ?a19 ?l19 ?c19 ?k19 ?a20 ?l20 ?c20 ?k20 ?a21 ?l21 ?c21 ?k21 ?a22 ?l22 ?c22 ?k22 ?a23 ?l23 ?c23 ?k23 ?a24 ?l24 ?c24 ?k24 ?a25 ?l25 ?c25 ?k25 ?a26 ?l26 ?c26 ?k26 ?a27 ?l27 ?c27 ?k27 ?a28 ?l28 ?c28 ?k28 ?a29 ?l29 ?c29 ?k29 ?a30 ?l30 ?c30 ?k30 ?a31 ?l31 ?c31 ?k31 ?a32 ?l32 ?c32 ?k32 ?a33 ?l33 ?c33 ?k33 ?z_abs ?z_int ?z_len ?z_isinstance ?z_bool ?z_str ?z_tuple ?z_list ?z_range ?z_all ?z_sorted ?z_set ?z_zip ?z_reversed ?nL ?aCN ?xCN ?kCN ?bCN ?tCN ?eCN ?aCI ?xCI ?kCI ?bCI ?tCI ?eCI ?aCK ?xCK ?kCK ?bCK ?tCK ?eCK ?aS ?kS ?e1 ?e2 ?e4 ?e5 ?e6 ?e7 ?e8
    (case a0 => first | k_is | rfl | decide +kernel)
    (case l0 => first | k_is | rfl | decide +kernel)
    (case c0 => first | k_is | rfl | decide +kernel)
    (case k0 => first | k_is | rfl | decide +kernel)
    (case a1 => first | k_is | rfl | decide +kernel)
    (case l1 => first | k_is | rfl | decide +kernel)
    (case c1 => first | k_is | rfl | decide +kernel)
    (case k1 => first | k_is | rfl | decide +kernel)
    (case a2 => first | k_is | rfl | decide +kernel)
    (case l2 => first | k_is | rfl | decide +kernel)
    (case c2 => first | k_is | rfl | decide +kernel)
    (case k2 => first | k_is | rfl | decide +kernel)
    (case a3 => first | k_is | rfl | decide +kernel)
    (case l3 => first | k_is | rfl | decide +kernel)
    (case c3 => first | k_is | rfl | decide +kernel)
    (case k3 => first | k_is | rfl | decide +kernel)
    (case a4 => first | k_is | rfl | decide +kernel)
    (case l4 => first | k_is | rfl | decide +kernel)
    (case c4 => first | k_is | rfl | decide +kernel)
    (case k4 => first | k_is | rfl | decide +kernel)
    (case a5 => first | k_is | rfl | decide +kernel)
    (case l5 => first | k_is | rfl | decide +kernel)
    (case c5 => first | k_is | rfl | decide +kernel)
    (case k5 => first | k_is | rfl | decide +kernel)
    (case a6 => first | k_is | rfl | decide +kernel)
    (case l6 => first | k_is | rfl | decide +kernel)
    (case c6 => first | k_is | rfl | decide +kernel)
    (case k6 => first | k_is | rfl | decide +kernel)
    (case a7 => first | k_is | rfl | decide +kernel)
    (case l7 => first | k_is | rfl | decide +kernel)
    (case c7 => first | k_is | rfl | decide +kernel)
    (case k7 => first | k_is | rfl | decide +kernel)
    (case a8 => first | k_is | rfl | decide +kernel)
    (case l8 => first | k_is | rfl | decide +kernel)
    (case c8 => first | k_is | rfl | decide +kernel)
    (case k8 => first | k_is | rfl | decide +kernel)
    (case a9 => first | k_is | rfl | decide +kernel)
    (case l9 => first | k_is | rfl | decide +kernel)
    (case c9 => first | k_is | rfl | decide +kernel)
    (case k9 => first | k_is | rfl | decide +kernel)
    (case a10 => first | k_is | rfl | decide +kernel)
    (case l10 => first | k_is | rfl | decide +kernel)
    (case c10 => first | k_is | rfl | decide +kernel)
    (case k10 => first | k_is | rfl | decide +kernel)
    (case a11 => first | k_is | rfl | decide +kernel)
    (case l11 => first | k_is | rfl | decide +kernel)
    (case c11 => first | k_is | rfl | decide +kernel)
    (case k11 => first | k_is | rfl | decide +kernel)
    (case a12 => first | k_is | rfl | decide +kernel)
    (case l12 => first | k_is | rfl | decide +kernel)
    (case c12 => first | k_is | rfl | decide +kernel)
    (case k12 => first | k_is | rfl | decide +kernel)
    (case a13 => first | k_is | rfl | decide +kernel)
    (case l13 => first | k_is | rfl | decide +kernel)
    (case c13 => first | k_is | rfl | decide +kernel)
    (case k13 => first | k_is | rfl | decide +kernel)
    (case a14 => first | k_is | rfl | decide +kernel)
    (case l14 => first | k_is | rfl | decide +kernel)
    (case c14 => first | k_is | rfl | decide +kernel)
    (case k14 => first | k_is | rfl | decide +kernel)
    (case a15 => first | k_is | rfl | decide +kernel)
    (case l15 => first | k_is | rfl | decide +kernel)
    (case c15 => first | k_is | rfl | decide +kernel)
    (case k15 => first | k_is | rfl | decide +kernel)
    (case a16 => first | k_is | rfl | decide +kernel)
    (case l16 => first | k_is | rfl | decide +kernel)
    (case c16 => first | k_is | rfl | decide +kernel)
    (case k16 => first | k_is | rfl | decide +kernel)
    (case a17 => first | k_is | rfl | decide +kernel)
    (case l17 => first | k_is | rfl | decide +kernel)
    (case c17 => first | k_is | rfl | decide +kernel)
    (case k17 => first | k_is | rfl | decide +kernel)
    (case a18 => first | k_is | rfl | decide +kernel)
    (case l18 => first | k_is | rfl | decide +kernel)
    (case c18 => first | k_is | rfl | decide +kernel)
    (case k18 => first | k_is | rfl | decide +kernel)
    (case a19 => first | k_is | rfl | decide +kernel)
    (case l19 => first | k_is | rfl | decide +kernel)
    (case c19 => first | k_is | rfl | decide +kernel)
    (case k19 => first | k_is | rfl | decide +kernel)
    (case a20 => first | k_is | rfl | decide +kernel)
    (case l20 => first | k_is | rfl | decide +kernel)
    (case c20 => first | k_is | rfl | decide +kernel)
    (case k20 => first | k_is | rfl | decide +kernel)
    (case a21 => first | k_is | rfl | decide +kernel)
    (case l21 => first | k_is | rfl | decide +kernel)
    (case c21 => first | k_is | rfl | decide +kernel)
    (case k21 => first | k_is | rfl | decide +kernel)
    (case a22 => first | k_is | rfl | decide +kernel)
    (case l22 => first | k_is | rfl | decide +kernel)
    (case c22 => first | k_is | rfl | decide +kernel)
    (case k22 => first | k_is | rfl | decide +kernel)
    (case a23 => first | k_is | rfl | decide +kernel)
    (case l23 => first | k_is | rfl | decide +kernel)
    (case c23 => first | k_is | rfl | decide +kernel)
    (case k23 => first | k_is | rfl | decide +kernel)
    (case a24 => first | k_is | rfl | decide +kernel)
    (case l24 => first | k_is | rfl | decide +kernel)
    (case c24 => first | k_is | rfl | decide +kernel)
    (case k24 => first | k_is | rfl | decide +kernel)
    (case a25 => first | k_is | rfl | decide +kernel)
    (case l25 => first | k_is | rfl | decide +kernel)
    (case c25 => first | k_is | rfl | decide +kernel)
    (case k25 => first | k_is | rfl | decide +kernel)
    (case a26 => first | k_is | rfl | decide +kernel)
    (case l26 => first | k_is | rfl | decide +kernel)
    (case c26 => first | k_is | rfl | decide +kernel)
    (case k26 => first | k_is | rfl | decide +kernel)
    (case a27 => first | k_is | rfl | decide +kernel)
    (case l27 => first | k_is | rfl | decide +kernel)
    (case c27 => first | k_is | rfl | decide +kernel)
    (case k27 => first | k_is | rfl | decide +kernel)
    (case a28 => first | k_is | rfl | decide +kernel)
    (case l28 => first | k_is | rfl | decide +kernel)
    (case c28 => first | k_is | rfl | decide +kernel)
    (case k28 => first | k_is | rfl | decide +kernel)
    (case a29 => first | k_is | rfl | decide +kernel)
    (case l29 => first | k_is | rfl | decide +kernel)
    (case c29 => first | k_is | rfl | decide +kernel)
    (case k29 => first | k_is | rfl | decide +kernel)
    (case a30 => first | k_is | rfl | decide +kernel)
    (case l30 => first | k_is | rfl | decide +kernel)
    (case c30 => first | k_is | rfl | decide +kernel)
    (case k30 => first | k_is | rfl | decide +kernel)
    (case a31 => first | k_is | rfl | decide +kernel)
    (case l31 => first | k_is | rfl | decide +kernel)
    (case c31 => first | k_is | rfl | decide +kernel)
    (case k31 => first | k_is | rfl | decide +kernel)
    (case a32 => first | k_is | rfl | decide +kernel)
    (case l32 => first | k_is | rfl | decide +kernel)
    (case c32 => first | k_is | rfl | decide +kernel)
    (case k32 => first | k_is | rfl | decide +kernel)
    (case a33 => first | k_is | rfl | decide +kernel)
    (case l33 => first | k_is | rfl | decide +kernel)
    (case c33 => first | k_is | rfl | decide +kernel)
    (case k33 => first | k_is | rfl | decide +kernel)
    (case z_abs => first | k_is | rfl | decide +kernel)
    (case z_int => first | k_is | rfl | decide +kernel)
    (case z_len => first | k_is | rfl | decide +kernel)
    (case z_isinstance => first | k_is | rfl | decide +kernel)
    (case z_bool => first | k_is | rfl | decide +kernel)
    (case z_str => first | k_is | rfl | decide +kernel)
    (case z_tuple => first | k_is | rfl | decide +kernel)
    (case z_list => first | k_is | rfl | decide +kernel)
    (case z_range => first | k_is | rfl | decide +kernel)
    (case z_all => first | k_is | rfl | decide +kernel)
    (case z_sorted => first | k_is | rfl | decide +kernel)
    (case z_set => first | k_is | rfl | decide +kernel)
    (case z_zip => first | k_is | rfl | decide +kernel)
    (case z_reversed => first | k_is | rfl | decide +kernel)
    (case nL => first | k_is | rfl | decide +kernel)
    (case aCN => first | k_is | rfl | decide +kernel)
    (case xCN => first | k_exc | k_is | rfl | decide +kernel)
    (case kCN => first | k_is | rfl | decide +kernel)
    (case bCN => first | k_is | rfl | decide +kernel)
    (case tCN => first | k_is | rfl | decide +kernel)
    (case eCN => first | k_is | rfl | decide +kernel)
    (case aCI => first | k_is | rfl | decide +kernel)
    (case xCI => first | k_exc | k_is | rfl | decide +kernel)
    (case kCI => first | k_is | rfl | decide +kernel)
    (case bCI => first | k_is | rfl | decide +kernel)
    (case tCI => first | k_is | rfl | decide +kernel)
    (case eCI => first | k_is | rfl | decide +kernel)
    (case aCK => first | k_is | rfl | decide +kernel)
    (case xCK => first | k_exc | k_is | rfl | decide +kernel)
    (case kCK => first | k_is | rfl | decide +kernel)
    (case bCK => first | k_is | rfl | decide +kernel)
    (case tCK => first | k_is | rfl | decide +kernel)
    (case eCK => first | k_is | rfl | decide +kernel)
    (case aS => first | k_is | rfl | decide +kernel)
    (case kS => first | k_is | rfl | decide +kernel)
    (case e1 => first | k_is | rfl | decide +kernel)
    (case e2 => first | k_is | rfl | decide +kernel)
    (case e4 => first | k_is | rfl | decide +kernel)
    (case e5 => first | k_is | rfl | decide +kernel)
    (case e6 => first | k_is | rfl | decide +kernel)
    (case e7 => first | k_is | rfl | decide +kernel)
    (case e8 => first | k_is | rfl | decide +kernel)
