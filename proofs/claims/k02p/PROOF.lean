import PyProof.Rows.All
import Wide.All
import OpenK.AllK
import Wide.FinOn
import HandS.Base
import HandS.Call
import HandS.List
import HandS.Ends
import HandS.Words
import HandS.Set
import HandS.SetFor
import PyProof.ListStr
import HandS.ForMost
import HandS.Rev
import KE.KSortKey
import HandS.SortKw
import HandS.OwnEq
import KE.KLam
import HandS.Lambda
import HandS.Codes
import HandS.IsInst
import HandS.TupAny
import HandS.FStr
import HandS.CallLocal
import HandS.Flow
import HandS.ForExc
import HandS.Style
import HandS.Wide
import HandS.HeadWalk
import HandS.HeadHook1
import HandS.EndTab
import PySem.Challenge.RW_treesays_k02_all_shapes_of_a_size
set_option Elab.async false
set_option linter.all false
set_option maxRecDepth 100000
/-! set(t) of a tuple of texts, and sorted of such a set -/
namespace XS
open PySem PySem.Spec PyProof.Rows L2

def txtOf (e : Int × Value) : Str := match e.2 with | .str k _ => k | _ => Str.empty
def TxtE (w : World) (e : Int × Value) : Prop := ∃ k tk, e.2 = Value.str k tk ∧ e.1 = hashStr w k
structure SetX (w : World) (h : Heap) (a : Addr) (L : List Str) : Prop where
  ex : ∃ o es ep t, h.get? a = some o ∧ o.ExactSet ∧ o.data = .set es ep t ∧ (∀ e ∈ es.toList, TxtE w e) ∧ (es.toList.map txtOf).Perm L ∧ es.size < scanBound ∧ t.fits es.size = true ∧ Ris t.place.toList ∧
    (w.params.followText "set-order" = true ∨ t.led = true)
  nd : L.Nodup
section
variable {P : Program} {w : World} {h h' : Heap} {a : Addr} {L : List Str}
theorem SetX.at' (R : SetX w h a L) (k : ∀ o, h.get? a = some o → h'.get? a = some o) : SetX w h' a L := by
  obtain ⟨⟨o, es, ep, t, ho, r⟩, nd⟩ := R
  exact ⟨⟨o, es, ep, t, k o ho, r⟩, nd⟩
theorem txt_elems {l : List (Int × Value)} (g : ∀ e ∈ l, TxtE w e) : ElemsOf (PySem.strKind P w) l := fun e he => by
  obtain ⟨k, tk, e1, e2⟩ := g e he
  exact ⟨⟨k, by rw [e1]; exact strKind_is P w k tk, e2⟩, by rw [e1] <;> rfl⟩
theorem txt_is {e : Int × Value} (g : TxtE w e) (k : Str) : (PySem.strKind P w).is k e.2 = true ↔ txtOf e = k := by
  obtain ⟨k0, tk, e1, _⟩ := g
  have his : (PySem.strKind P w).is k0 e.2 = true := by rw [e1]; exact strKind_is P w k0 tk
  have ht : txtOf e = k0 := by unfold txtOf; rw [e1]
  rw [KeyKind.is_eq_decide his k, decide_eq_true_eq, ht]
  exact ⟨fun z => z.symm, fun z => z.symm⟩
end
section
variable {P : Program} {w : World} {A : Around} {E : Value → Shared → Prop} {s : Shared} {a : Addr} {L : List Str}
theorem addX_tail {g : Bool → Sem Unit} (hg : ∀ (b : Bool) (s1 : Shared) (Q' : Unit → Shared → Prop), Q' () s1 → wpAny (model P w) A (g b) Q' E s1)
    {o : Obj} {es : Array (Int × Value)} {ep : Nat} {t : SetTable} (ho : s.heap.get? a = some o) (hex : o.ExactSet) (hd : o.data = .set es ep t)
    {es1 : Array (Int × Value)} {t2 : SetTable} {L1 : List Str} (g1 : ∀ e ∈ es1.toList, TxtE w e) (p1 : (es1.toList.map txtOf).Perm L1) (n1 : L1.Nodup)
    (hb1 : es1.size < scanBound) (hf2 : t2.fits es1.size = true) (hr : Ris t2.place.toList) (hl : w.params.followText "set-order" = true ∨ t2.led = true) {dum : Bool} {R : Option Bool → Shared → Prop}
    (hR : ∀ h', Heap.SameBut a s.heap h' → SetX w h' a L1 → R (some true) { s with heap := h' }) :
    wpAny (model P w) A (do
        storeSet a es1 t2
        if (!dum && t2.tooFull) = true then do
            g (relayAll t2 es1 (SetTable.grown es1.size)).2.2
            storeSet a (relayAll t2 es1 (SetTable.grown es1.size)).1 (relayAll t2 es1 (SetTable.grown es1.size)).2.1
            pure (some true)
          else pure (some true)) R E s := by
  refine wpAny_bind (wpAny_storeSet_of ho hd ?_ (fits_of_scanBound hb1))
  have ho1 := store_at (es' := es1) (t' := t2) ho hd
  have sb1 := Heap.SameBut.update s.heap a (Obj.putSet es1 t2)
  split
  · have q1 := relayAll_perm t2 es1 (SetTable.grown es1.size)
    have q2 := relayAll_fits t2 es1 (SetTable.grown es1.size)
    have q3 := relayAll_ris t2 es1 (SetTable.grown es1.size)
    have q4 := relayAll_led t2 es1 (SetTable.grown es1.size)
    revert q1 q2 q3 q4
    generalize relayAll t2 es1 (SetTable.grown es1.size) = Z
    obtain ⟨es2, t3, gave⟩ := Z
    intro q1 q2 q3 q4
    dsimp only at q1 q2 q3 q4 ⊢
    have hsz : es2.size = es1.size := by rw [← Array.length_toList, q1.length_eq, Array.length_toList]
    have hb2 : es2.size < scanBound := by rw [hsz]; exact hb1
    refine wpAny_bind (hg _ _ _ (wpAny_bind (wpAny_storeSet_of ho1 rfl ?_ (fits_of_scanBound hb2))))
    refine wpAny_pure (hR _ (sb1.trans (Heap.SameBut.update _ a _)) ⟨⟨_, es2, _, t3, store_at (es' := es2) (t' := t3) ho1 rfl, hex, rfl, fun e he => g1 e (q1.mem_iff.mp he), (q1.map txtOf).trans p1, hb2, q2, q3, ?_⟩, n1⟩)
    rw [q4]
    exact hl
  · exact wpAny_pure (hR _ sb1 ⟨⟨_, es1, _, t2, ho1, hex, rfl, g1, p1, hb1, hf2, hr, hl⟩, n1⟩)

theorem addX_hashed {k : Str} {tk : Tok} {Q : Bool → Shared → Prop} (R : SetX w s.heap a L) (room : L.length + 1 < scanBound)
    (hQ : ∀ h' b, Heap.SameBut a s.heap h' → SetX w h' a (if k ∈ L then L else k :: L) → Q b { s with heap := h' }) :
    wpAny (model P w) A (setAddHashed a (.str k tk) ((PySem.strKind P w).hash k)) Q E s := by
  obtain ⟨⟨o, es, ep, t, ho, hex, hd, g, pm0, hb, hf, hr, hl⟩, nd⟩ := R
  have hlen : es.size = L.length := by rw [← pm0.length_eq, List.length_map, Array.length_toList]
  have hkey : (PySem.strKind P w).is k (.str k tk) = true := strKind_is P w k tk
  have hsc : (Value.str k tk).scannable = true := rfl
  have hel : ElemsOf (PySem.strKind P w) es.toList := txt_elems g
  unfold setAddHashed setAddHashedIn
  refine wpAny_holding (wpAny_bind (wpAny_setState_of ho hd hf ?_))
  dsimp only
  rw [byScan_of hsc hb hel]
  simp only [↓reduceIte]
  unfold setAddByScan
  refine wpAny_bind (wpAny_bind (wpAny_rule (wpAny_bind (wpAny_setScan_of hkey ho hd hf hel ?_))))
  cases hfi : List.findIdx? (fun e => (PySem.strKind P w).is k e.2) es.toList with
  | some j =>
    dsimp only
    obtain ⟨hj, pj, _⟩ := List.findIdx?_eq_some_iff_getElem.mp hfi
    have hm : k ∈ L := pm0.mem_iff.mp (List.mem_map.mpr ⟨es.toList[j], List.getElem_mem hj, (txt_is (P := P) (g _ (List.getElem_mem hj)) k).1 pj⟩)
    refine wpAny_pure (wpAny_pure (hQ s.heap _ (Heap.SameBut.refl a s.heap) ?_))
    rw [if_pos hm]
    exact ⟨⟨o, es, ep, t, ho, hex, hd, g, pm0, hb, hf, hr, hl⟩, nd⟩
  | none =>
    dsimp only
    have hnk : k ∉ L := fun z => by
      obtain ⟨e, he, q⟩ := List.mem_map.mp (pm0.mem_iff.mpr z)
      have c := List.findIdx?_eq_none_iff.mp hfi e he
      rw [(txt_is (P := P) (g e he) k).2 q] at c
      cases c
    have hgw : ∀ (b : Bool) {s1 : Shared} {Q' : Unit → Shared → Prop}, Q' () s1 → wpAny (model P w) A (match b with | true => rule "set.scan.the-table-gave-way" | false => pure ()) Q' E s1 :=
      fun b s1 Q' q => by cases b <;> first | exact wpAny_pure q | exact wpAny_rule q
    have q1 := layNew_perm t es ((PySem.strKind P w).hash k) (.str k tk)
    have q2 := layNew_fits t es ((PySem.strKind P w).hash k) (.str k tk)
    have q3 := layNew_ris t es ((PySem.strKind P w).hash k) (.str k tk) hr
    have q4 := layNew_led t es ((PySem.strKind P w).hash k) (.str k tk)
    revert q1 q2 q3 q4
    generalize layNew t es ((PySem.strKind P w).hash k) (.str k tk) = Z
    obtain ⟨es1, t1, dum, gave⟩ := Z
    intro q1 q2 q3 q4
    dsimp only at q1 q2 q3 q4 ⊢
    rw [Array.toList_push] at q1
    have pc : es1.toList.Perm (((PySem.strKind P w).hash k, Value.str k tk) :: es.toList) := q1.trans (List.perm_append_singleton _ _)
    have p1 : (es1.toList.map txtOf).Perm (k :: L) := (pc.map txtOf).trans (pm0.cons k)
    have g1 : ∀ e ∈ es1.toList, TxtE w e := fun e he => by
      rcases List.mem_cons.mp (pc.mem_iff.mp he) with z | z
      · rw [z]; exact ⟨k, tk, rfl, rfl⟩
      · exact g e z
    have n1 : (k :: L).Nodup := List.nodup_cons.mpr ⟨hnk, nd⟩
    have hsz : es1.size = L.length + 1 := by rw [← Array.length_toList, pc.length_eq, List.length_cons, Array.length_toList, hlen]
    have hb1 : es1.size < scanBound := by rw [hsz]; exact room
    have hled : w.params.followText "set-order" = true ∨ t1.led = true := by rw [q4]; exact hl
    have fin : ∀ h' b, Heap.SameBut a s.heap h' → SetX w h' a (k :: L) → Q b { s with heap := h' } := fun h' b sb r => hQ h' b sb (by rw [if_neg hnk]; exact r)
    refine wpAny_bind (hgw _ ?_)
    split
    · refine wpAny_bind ?_
      rw [hashByValue_scannable 8 hsc]
      refine wpAny_pure ?_
      refine addX_tail ?_ ho hex hd g1 p1 n1 hb1 ?_ ?_ ?_ ?_
      · intro b s1 Q' q; cases b <;> first | exact wpAny_pure q | exact wpAny_rule q
      · first | (split <;> first | exact q2 | exact SetTable.fits_plain_off q2) | exact q2
      · first | (split <;> exact q3) | exact q3
      · first | (split <;> exact hled) | exact hled
      · intro h' sb r; dsimp only; exact wpAny_pure (fin h' _ sb r)
    · refine wpAny_bind (wpAny_pure ?_)
      simp only [↓reduceIte]
      refine addX_tail ?_ ho hex hd g1 p1 n1 hb1 q2 q3 hled ?_
      · intro b s1 Q' q; cases b <;> first | exact wpAny_pure q | exact wpAny_rule q
      · intro h' sb r; dsimp only; exact wpAny_pure (fin h' _ sb r)
end
/-- a list's texts, each once -/
def once (xs : List Str) : List Str := xs.foldl (fun L k => if k ∈ L then L else k :: L) []
theorem once_len (xs : List Str) (i : Nat) : (once (xs.take i)).length ≤ i := by
  induction i with
  | zero => simp [once]
  | succ i ih =>
    rw [List.take_add_one]
    cases h : xs[i]? with
    | none => simp only [Option.toList_none, List.append_nil]; omega
    | some k =>
      have e : once (xs.take i ++ [k]) = (if k ∈ once (xs.take i) then once (xs.take i) else k :: once (xs.take i)) := by
        unfold once
        rw [List.foldl_append]
        rfl
      show (once (xs.take i ++ [k])).length ≤ i + 1
      rw [e]
      split
      · omega
      · rw [List.length_cons]; omega
theorem once_next {xs : List Str} {i : Nat} {k : Str} (h : xs[i]? = some k) : once (xs.take (i + 1)) = (if k ∈ once (xs.take i) then once (xs.take i) else k :: once (xs.take i)) := by
  rw [List.take_add_one, h]
  show once (xs.take i ++ [k]) = _
  unfold once
  rw [List.foldl_append]
  rfl
theorem once_mem_gen (k : Str) : ∀ (xs L : List Str), k ∈ xs.foldl (fun L k => if k ∈ L then L else k :: L) L ↔ k ∈ L ∨ k ∈ xs
  | [], L => by simp
  | x :: r, L => by
    rw [List.foldl_cons, once_mem_gen k r]
    by_cases h : x ∈ L
    · rw [if_pos h, List.mem_cons]
      constructor
      · rintro (z | z)
        · exact .inl z
        · exact .inr (.inr z)
      · rintro (z | z | z)
        · exact .inl z
        · exact .inl (z ▸ h)
        · exact .inr z
    · rw [if_neg h, List.mem_cons, List.mem_cons]
      constructor
      · rintro ((z | z) | z)
        · exact .inr (.inl z)
        · exact .inl z
        · exact .inr (.inr z)
      · rintro (z | z | z)
        · exact .inl (.inr z)
        · exact .inl (.inl z)
        · exact .inr z
theorem once_mem {k : Str} {xs : List Str} : k ∈ once xs ↔ k ∈ xs := by
  unfold once
  rw [once_mem_gen]
  simp
theorem once_nodup : ∀ (xs L : List Str), L.Nodup → (xs.foldl (fun L k => if k ∈ L then L else k :: L) L).Nodup
  | [], L, h => h
  | x :: r, L, h => by
    rw [List.foldl_cons]
    refine once_nodup r _ ?_
    split
    · exact h
    · rename_i hn
      exact List.nodup_cons.mpr ⟨hn, h⟩
section
variable {P : Program} {w : World} {A : Around} {E : Value → Shared → Prop} {s : Shared}
theorem update_txts {I : Addr} {fp wr : List Addr} {G : Array GenState → Array GenState → Prop} {n : Nat} {Pv : Nat → Value → Prop} {St : Nat → Shared → Prop} {R : Result → Shared → Prop}
    (W : WalksS P w A.in1 I fp wr G n Pv St) (S : Addr) (hSf : S ∉ fp) (xs : List Str) (hn : n = xs.length) (hb : xs.length + 1 < scanBound) (hval : ∀ i v, Pv i v → ∃ k t, xs[i]? = some k ∧ v = .str k t) :
    ∀ (k i : Nat) (s : Shared), n - i = k → i ≤ n → St i s → SetX w s.heap S (once (xs.take i)) →
      (∀ s', Moved (S :: wr) G s s' → SetX w s'.heap S (once xs) → R (.ok (.ret .none)) s') →
      codeAny (model P w) A (.builtin "set.update.loop" ⟨[.ref S, .ref I], []⟩) R s := by
  have hSw : S ∉ wr := fun h => hSf (W.sub _ h)
  intro k
  induction k with
  | zero =>
    intro i s hk hi hst hS hR
    obtain rfl : i = n := by omega
    rw [List.take_of_length_le (Nat.le_of_eq hn.symm)] at hS
    refine codeAny_builtin F.entry_set_update_loop ?_
    rw [Around.under_plainId F.plain_set_update_loop _]
    show wpAny _ A.in1 (pyNext (.ref I) >>= _) _ _ s
    refine wpAny_bind (W.done s _ _ hst fun s' hm => ?_)
    exact wpAny_pure (hR s' (hm.mono fun b hb => List.mem_cons_of_mem _ hb) (hS.at' fun o e => hm.heap S o hSw e))
  | succ k ih =>
    intro i s hk hi hst hS hR
    have hlt : i < n := by omega
    refine codeAny_builtin F.entry_set_update_loop ?_
    rw [Around.under_plainId F.plain_set_update_loop _]
    show wpAny _ A.in1 (pyNext (.ref I) >>= _) _ _ s
    refine wpAny_bind (W.item i s _ _ hlt hst fun v s' hP hst' hm => ?_)
    obtain ⟨z, t, hz, rfl⟩ := hval i v hP
    have hS' : SetX w s'.heap S (once (xs.take i)) := hS.at' fun o e => hm.heap S o hSw e
    show wpAny _ A.in1 (holding [Value.str z t] (setAdd S (.str z t)) >>= _) _ _ s'
    refine wpAny_bind (wpAny_holding ?_)
    unfold setAdd
    refine wpAny_holding (wpAny_bind ((PySem.strKind P w).pyHash (k := z) (strKind_is _ _ _ _) ?_))
    have hl := once_len xs i
    refine addX_hashed (s := { s' with toks := s'.toks + 1 }) hS' (by omega) fun h' b0 hsb hS2 => ?_
    rw [← once_next hz] at hS2
    refine wpAny_pure ⟨plainId_quiet F.plain_set_update_loop _, ih (i + 1) _ (by omega) hlt (W.frame _ s' _ _ hst' (Nat.le_succ _) fun b hb o e => ?_) hS2 fun s'' hm'' hS'' => ?_⟩
    · rw [hsb.2 b (fun q : b = S => hSf (by rw [← q]; exact hb))]; exact e
    · refine hR s'' (Moved.trans W.gtrans ((hm.mono fun b hb => List.mem_cons_of_mem _ hb).then_heap (Nat.le_succ _) fun b o hb e => ?_) hm'') hS''
      rw [hsb.2 b (fun q : b = S => hb (by rw [q]; exact List.mem_cons_self))]; exact e
/-- what set() makes -/
abbrev bare (w : World) : Obj := { cls := .type "set", dict := none, data := .set #[] 0 (.fresh 0 0 (!w.params.followText "set-order")) }
theorem bareX {h : Heap} {a : Addr} (ho : h.get? a = some (bare w)) : SetX w h a [] :=
  ⟨⟨_, #[], 0, _, ho, ⟨rfl, rfl, rfl⟩, rfl, (fun e he => by simp at he), (by simp), (by decide), (by rfl), List.Pairwise.nil, by
    show _ ∨ (!w.params.followText "set-order") = true
    cases w.params.followText "set-order"
    · exact .inr rfl
    · exact .inl rfl⟩, List.nodup_nil⟩
theorem StrsAre.txt_at : ∀ {us : List Value} {ks : List Str}, StrsAre us ks → ∀ (i : Nat) (v : Value), us[i]? = some v → ∃ k t, ks[i]? = some k ∧ v = .str k t
  | _, _, .nil, i, v, h => by simp at h
  | _, _, .cons n t hr, 0, v, h => by simp at h; exact ⟨n, t, rfl, h.symm⟩
  | _, _, .cons n t hr, i + 1, v, h => by
    simp only [List.getElem?_cons_succ] at h ⊢
    exact txt_at hr i v h
set_option maxRecDepth 100000 in
set_option maxHeartbeats 3200000 in
theorem set_of_txts {l : Addr} {items : Array Value} (xs : List Str) {Q : Value → Shared → Prop} (hh : A.handled = none) (hl : s.heap.IsTuple l items) (hit : StrsAre items.toList xs) (hb : xs.length + 1 < scanBound)
    (h : ∀ (h' : Heap) (tk : Nat), SetX w h' s.heap.objs.size (once xs) → (∀ b o, s.heap.get? b = some o → h'.get? b = some o) → Q (.ref s.heap.objs.size) { s with heap := h', toks := tk }) :
    wpAny (model P w) A (call (.type "set") [.ref l]) Q E s := by
  have hisz : items.size = xs.length := by
    have q := StrsAre.len_eq hit
    rw [Array.length_toList] at q
    exact q
  obtain ⟨c, tl, hmro⟩ := F.called_set.mro
  have hmade := F.called_set.made
  have hsub := F.called_set.sub
  refine wpAny_call (codeAny_of_tree ?_)
  show wpAny _ _ (callAny (.type "set") _) _ _ _
  refine wpAny_pure ⟨Code.quiet_builtin _ (by decide +kernel), codeAny_builtin F.entry_type_call ?_⟩
  rw [Around.under_plain (weight_type_call_type "set" [.ref l] []) rfl]
  have h1 := F.called_set.notType
  have h2 := F.called_set.canCreate
  have hct := F.typeCall_set_1 (.ref l)
  repeat (any_goals (first | assumption | wp_step))
  refine codeAny_mono (code_set_led1 (.ref l) (E := E) (Q₁ := fun obj s1 => obj = .ref s.heap.objs.size ∧ s1 = { s with heap := s.heap.push (bare w) }) ⟨rfl, rfl⟩) fun r s1 hr => ?_
  cases r with
  | error e => exact hr
  | ok fl =>
    cases fl with
    | ret obj =>
      obtain ⟨rfl, rfl⟩ := hr
      have hS : (s.heap.push (bare w)).get? s.heap.objs.size = some (bare w) := Heap.get?_push_size _ rfl
      have hT : Shared.TypeIs { s with heap := s.heap.push (bare w) } (.ref s.heap.objs.size) "set" := ⟨_, hS, rfl⟩
      have hli := F.called_set.init.lookup
      have hbi := F.called_set.init.bind (.ref s.heap.objs.size)
      repeat (any_goals (first | assumption | wp_step))
      refine codeAny_mono (codeAny_call_builtin (R := wants (fun r s2 => r = .none ∧ ∃ h' tk, s2 = { s with heap := h', toks := tk } ∧ SetX w h' s.heap.objs.size (once xs) ∧
          (∀ b o, s.heap.get? b = some o → h'.get? b = some o)) E) F.called_set.init.plain F.entry_set_init (check_set_init_1 hT ?_)) fun r2 s2 hr2 => ?_
      · obtain ⟨⟨ocls, odict, odata, oslots⟩, hol, hcl, nl, hdl⟩ := hl
        simp only at hcl hdl
        subst hcl; subst hdl
        have hol' : (s.heap.push (bare w)).get? l = some { cls := .type "tuple", dict := odict, data := .seq items nl, slots := oslots } := Heap.get?_push_of_some _ hol
        have hsls := F.sub_tuple_set
        have hslf := F.sub_tuple_frozenset
        have hne : (Value.type "tuple" == Value.type "dict") = false := by decide
        have hl1 : (s.heap.push (bare w)).IsTuple l items := ⟨_, hol', rfl, nl, rfl⟩
        unfold Builtin.«set.__init__» noKeywords Builtin.Frozenset.updateFrom
        generalize hPI : pyIter = PI
        wp_walk
        subst hPI
        refine wpAny_pyIter_tuple hl1 (wpAny_bind (wpAny_runValue ?_))
        have hlS : l < s.heap.objs.size := Heap.lt_size hol
        have hh3 : A.in1.in1.in1.handled = none := by simp [hh]
        have hz1 : (s.heap.push (bare w)).objs.size = s.heap.objs.size + 1 := Heap.size_push ..
        have hneI : l ≠ (s.heap.push (bare w)).objs.size := by rw [hz1]; exact Nat.ne_of_lt (Nat.lt_succ_of_lt hlS)
        have hSf : s.heap.objs.size ∉ [(s.heap.push (bare w)).objs.size, l] := by
          rw [hz1]; simp only [List.mem_cons, List.not_mem_nil, or_false, not_or]
          exact ⟨Nat.ne_of_lt (Nat.lt_succ_self _), Nat.ne_of_gt hlS⟩
        refine update_txts ((Walks.tuple hh3 _ l hneI items).toS) s.heap.objs.size
          hSf xs hisz hb (fun i v hv => StrsAre.txt_at hit i v (by rw [Array.getElem?_toList]; exact hv)) (items.size - 0) 0 _ (by omega) (Nat.zero_le _)
          ⟨⟨_, Heap.get?_push_size _ rfl, rfl, rfl⟩, (hl1.push _)⟩ ?hS0 ?hR
        case hS0 =>
          exact bareX (Heap.get?_push_of_some _ hS)
        case hR =>
          intro s' hm hS'
          obtain ⟨h', g2, d', tk', os'⟩ := s'
          have eg : g2 = s.gens := hm.gens
          have ed : d' = s.drawn := hm.drawn
          have eo : os' = s.os := hm.os
          subst eg; subst ed; subst eo
          show wpAny _ _ _ _ _ _
          refine wpAny_pure ?_
          show wpAny _ _ (ret Value.none) _ _ _
          refine wpAny_pure ⟨rfl, h', tk', rfl, hS', fun b o e => ?_⟩
          have hb0 : b < s.heap.objs.size := Heap.lt_size e
          exact hm.heap b o (by rw [hz1]; simp only [List.mem_cons, List.not_mem_nil, or_false, not_or]; exact ⟨Nat.ne_of_lt hb0, Nat.ne_of_lt (Nat.lt_succ_of_lt hb0)⟩) (Heap.get?_push_of_some _ (Heap.get?_push_of_some _ e))
      · cases r2 with
        | error e => exact hr2
        | ok fl2 =>
          cases fl2 with
          | ret r =>
            obtain ⟨rfl, h', tk, rfl, hS', hk'⟩ := hr2
            repeat (any_goals (first | assumption | wp_step))
            exact h _ _ hS' hk'
          | _ => exact hr2.elim
    | _ => exact hr.elim
theorem sorted_setX {a : Addr} {L : List Str} {Q : Value → Shared → Prop} (R : SetX w s.heap a L) (hh : A.handled = none) (h64 : L.length < 64)
    (hQ : ∀ s' p (out : Array Value) (c : Nat) (ys : List Str), (∀ b o, s.heap.get? b = some o → s'.heap.get? b = some o) → s'.gens = s.gens → s'.os = s.os → s.heap.objs.size ≤ p →
      s'.heap.get? p = some (seqObj "list" out c) → StrsAre out.toList ys → ys.Perm L → sortedS ys = true → Q (.ref p) s') :
    wpAny (model P w) A (call (.builtin "sorted") [.ref a]) Q E s := by
  obtain ⟨⟨o, es, ep, t, ho, hex, hd, g, pm0, hb, hf, hr, hl⟩, nd⟩ := R
  have hlen : es.size = L.length := by rw [← pm0.length_eq, List.length_map, Array.length_toList]
  refine Calls.call_function_entry kind_sorted plain_sorted entry_sorted (args_sorted1 _) ?_
  unfold Builtin.«sorted»
  refine wpAny_bind (m := checkCount "sorted" 1 1 _) (wpAny_pure ?_)
  refine wpAny_bind (collect_set (A := A.in1) hh ⟨o, ho, hex.1, hd⟩ hf hb hr hl fun s1 vs k1 hz g1 o1 pm => ?_)
  have hvl : vs.length = L.length := by rw [pm.length_eq, List.length_map, Array.length_toList, hlen]
  have hV : ∀ v ∈ vs, ∃ x tk, v = Value.str x tk := fun v hv => by
    obtain ⟨e, he, q⟩ := List.mem_map.mp (pm.mem_iff.mp hv)
    obtain ⟨k, tk, h1, _⟩ := g e he
    exact ⟨k, tk, by rw [← q]; exact h1⟩
  have hS : StrsAre vs (vs.map strOf) := strsAre_map vs hV
  have pk : (vs.map strOf).Perm L := by
    refine List.Perm.trans ?_ pm0
    have q := pm.map strOf
    rw [List.map_map] at q
    have e : es.toList.map (strOf ∘ fun x => x.2) = es.toList.map txtOf := by
      refine List.map_congr_left fun e he => ?_
      obtain ⟨k, tk, h1, _⟩ := g e he
      show strOf e.2 = txtOf e
      unfold txtOf
      rw [h1] <;> rfl
    rw [e] at q
    exact q
  refine wpAny_bind (wpAny_newList ?_ (by rw [hvl, sizeLine_eq]; omega))
  have hoL : (s1.heap.push (seqObj "list" vs.toArray 0)).get? s1.heap.objs.size = some (seqObj "list" vs.toArray 0) := Heap.get?_push_size _ rfl
  refine wpAny_bind (wpAny_holding (wpAny_call_entry slot_list_sort ⟨_, hoL, rfl⟩ entry_list_sort
    (list_sort_treeK strKind_oneLt hoL hS.keysOf (fun v1 v2 rest e => keyKind_strs (by rw [← e]; exact hS)) (by rw [hvl]; exact h64) fun st' hp hs => ⟨_, rfl, ?_⟩) (args_list_sort _)))
  obtain ⟨ys, b1, b2, b3⟩ := sorted_out_str hS hp hs
  obtain ⟨c, hc⟩ := sortedHeap_at (vs := vs) (out := (arrOf st').map (·.2)) hoL
  refine wpAny_pure ⟨_, rfl, hQ _ s1.heap.objs.size _ c ys (fun b u e => ?_) g1 o1 hz hc b1 (b2.trans pk) b3⟩
  have q := k1 b u e
  have hlt := Heap.lt_size q
  show (sortedHeap (s1.heap.push (seqObj "list" vs.toArray 0)) s1.heap.objs.size vs _).get? b = some u
  rw [sortedHeap_old (Nat.ne_of_lt hlt) (by rw [size_push']; exact Nat.lt_succ_of_lt hlt)]
  exact Heap.get?_push_of_some _ q
end
end XS
namespace L2
open PySem PySem.Spec PyProof.Rows XS
section
variable {X : Cx}
/-- the set of texts at a -/
def SetXO (w : World) (a : Addr) (L : List Str) : HO := .ext fun h => SetX w h a L
theorem setXO_new {w : World} {P : Program} {H : Hp} {h : Heap} {a : Addr} {L : List Str} (R : SetX w h a L) : ObjOk P w H h a (SetXO w a L) := by
  have ⟨⟨o, _, _, _, ho, _⟩, _⟩ := R
  exact ⟨R, ⟨o, ho⟩, fun h1 h2 p k => p.at' k⟩
theorem txts_of_vals : ∀ {ys : List Str} {us : List Value}, Vals (ys.map V.str) us → StrsAre us ys
  | [], _, .nil => .nil
  | y :: ys, _, .cons r t => by
    obtain ⟨k, rfl⟩ := r
    exact .cons y k (txts_of_vals t)
/-- set(t), t a tuple of texts -/
def rSetX (K : PySem.W.Frag) (w : World) : List V → Hp → VK → Prop := fun vs H Q => ∃ (l : Addr) (xs : List Str), vs = [V.ref l] ∧ SqT K H l (xs.map V.str) ∧ xs.length < 64 ∧ ∀ p, H p = none → Q (.ref p) (upd H p (SetXO w p (once xs)))
theorem cr_setX (hc : X.calm = true) : CallR X (.type "set") (rSetX X.K X.w) := by
  intro pins s σ H vs us Q I r h
  obtain ⟨l, xs, rfl, hq, h64, q⟩ := h
  rw [Vals.ref1 r]
  obtain ⟨its, rv, pl, hz⟩ := I.tuple hq
  refine set_of_txts xs (I.ok.hd hc) pl (by simpa using txts_of_vals rv) (by unfold scanBound; omega) fun h' tk R k => ?_
  exact ⟨.ref _, upd H s.heap.objs.size (SetXO X.w s.heap.objs.size (once xs)), I.laid (t' := tk) k (Nat.le_refl _) (setXO_new R), rfl, q _ (I.hok.fresh (Nat.le_refl _))⟩
/-- sorted(s), s a set of texts -/
def rSortedX (w : World) : List V → Hp → VK → Prop := fun vs H Q => ∃ (a : Addr) (L : List Str), vs = [V.ref a] ∧ H a = some (SetXO w a L) ∧ L.length < 64 ∧
  ∀ (ys : List Str) (p : Addr), ys.Perm L → sortedS ys = true → H p = none → Q (.ref p) (upd H p (.lst (ys.map V.str)))
theorem cr_sortedX (hc : X.calm = true) : CallR X (.builtin "sorted") (rSortedX X.w) := by
  intro pins s σ H vs us Q I r h
  obtain ⟨a, L, rfl, ha, h64, q⟩ := h
  have R : SetX X.w s.heap a L := (I.hok a _ ha).1
  rw [Vals.ref1 r]
  refine sorted_setX R (I.ok.hd hc) h64 fun s' p out c ys k g o hp hg hi pm hs => ?_
  have hlen : (ys.map V.str).length ≤ sizeLine := by rw [List.length_map, pm.length_eq, sizeLine_eq]; omega
  have hn : H p = none := I.hok.fresh hp
  have J : Inv X pins σ (upd H p (.lst (ys.map V.str))) { s with heap := s'.heap, gens := s'.gens, drawn := s'.drawn, toks := s'.toks } :=
    I.call (ch := []) (Un.laid k hp hn) (I.hok.laid k hp ⟨hlen, out.toList, c, vals_of_strs hi, hg⟩) (by rw [g]; exact I.bare) (fun _ z => nomatch z)
  have e : s' = { s with heap := s'.heap, gens := s'.gens, drawn := s'.drawn, toks := s'.toks } := by
    cases s'
    cases s
    cases o
    rfl
  rw [e]
  exact ⟨.ref p, _, J, rfl, q ys p pm hs hn⟩
end
end L2

set_option Elab.async false
set_option linter.all false
set_option maxRecDepth 100000
set_option maxHeartbeats 1000000
/-! list(reversed(t)), t a tuple -/
namespace XR
open PySem PySem.Spec PyProof.Rows RT

theorem no_len : typeLookup (.type "reversed") "__len__" = pure none := by rw [typeLookup_type, builtinLookup_eq_fast]; kernel_rfl
theorem has_hint : typeLookup (.type "reversed") "__length_hint__" = pure (some (.builtin "reversed.__length_hint__")) := by rw [typeLookup_type, builtinLookup_eq_fast]; kernel_rfl
theorem slot_hint : Slot "reversed" "__length_hint__" "reversed.__length_hint__" :=
  .of (owner := "reversed") (n := "__length_hint__") has_hint (by decide +kernel) (by decide +kernel) (by decide +kernel)
    (by first | exact .inl (by decide +kernel) | exact .inr (by decide +kernel)) (by rw [isSubtype_type]; kernel_rfl)
theorem entry_hint : entryFor table "reversed.__length_hint__" = some Builtin.«reversed.__length_hint__» := entryFor_of_tree (by kernel_rfl)
theorem args_hint (a : Value) : argsOk "reversed.__length_hint__" ⟨[a], []⟩ := by
  unfold argsOk
  kernel_rfl
theorem type_hint : typeOf (.builtin "reversed.__length_hint__") = pure (.type "method_descriptor") := by kernel_rfl
theorem rtWalks {prog : Program} {w : World} {A : Around} (hh : A.handled = none) (I t : Addr) (hne : t ≠ I) (items : Array Value) (hsz : items.size ≤ sizeLine) :
    Walks prog w A I [I, t] [I] items.size (fun i v => items[items.size - 1 - i]? = some v) (fun i h => i ≤ items.size ∧ IsRt h I t ((items.size : Int) - 1 - (i : Int)) ∧ IsTup h t items) where
  sub := fun b hb => by simp at hb; simp [hb]
  frame := fun _ _ _ x hk => ⟨x.1, x.2.1.at fun o e => hk I (by simp) o e, let ⟨o, ho, r⟩ := x.2.2; ⟨o, hk t (by simp) o ho, r⟩⟩
  item := fun i s Q E hi x hQ => by
    have e : (items.size : Int) - 1 - (i : Int) = ((items.size - 1 - i : Nat) : Int) := by omega
    have hit := x.2.1
    rw [e] at hit
    have hx : items[items.size - 1 - i]? = some (items[items.size - 1 - i]'(by omega)) := Array.getElem?_eq_getElem (by omega)
    refine next_rt_item hit x.2.2 hx hsz fun h' hit' hs' => ?_
    have e2 : ((items.size - 1 - i : Nat) : Int) - 1 = (items.size : Int) - 1 - ((i + 1 : Nat) : Int) := by omega
    rw [e2] at hit'
    obtain ⟨o, ho, r⟩ := x.2.2
    exact hQ _ h' (s.toks + 1) hx ⟨hi, hit', ⟨o, (hs'.2 t hne).trans ho, r⟩⟩ fun b o hb eo => hs'.extBut b o (fun h => hb (by simp [h])) eo
  done := fun s Q E x hQ => by
    have e : (items.size : Int) - 1 - (items.size : Int) = -1 := by omega
    have hit := x.2.1
    rw [e] at hit
    exact next_rt_end hh hit fun h' he' => hQ h' s.toks fun b o hb eo => he' b o (fun h => hb (by simp [h])) eo
  self := fun _ _ _ _ x hQ => iter_rt x.2.1 hQ
section
variable {prog : Program} {w : World} {A : Around} {E : Value → Shared → Prop} {s : Shared}
theorem hint_call {it t : Addr} {items : Array Value} {Q : Value → Shared → Prop} (hit : IsRt s.heap it t ((items.size : Int) - 1)) (ht : IsTup s.heap t items) (hz : items.size ≤ sizeLine)
    (h : ∀ k tk, Q (.int (items.size : Int) k) { s with toks := tk }) : wpAny (model prog w) A (call (.builtin "reversed.__length_hint__") [.ref it]) Q E s := by
  obtain ⟨o, ho, hc, hd⟩ := id hit
  refine wpAny_call_entry slot_hint hit.typeIs entry_hint ?_ (args_hint _)
  unfold Builtin.«reversed.__length_hint__»
  refine wpAny_bind (wpAny_of_eq (a := Value.ref it) (by first | rfl | kernel_rfl) ?_)
  try dsimp only
  refine wpAny_bind (wpAny_field ho hd (x := .ref t) rfl ?_)
  show wpAny _ _ (call (.builtin "len") [.ref t] >>= _) _ _ s
  rw [sizeLine_eq] at hz
  refine wpAny_bind (PyProof.Rows.len_tuple ht (by omega) ?_)
  refine wpAny_bind (wpAny_of_eq (a := some ((items.size : Nat) : Int)) rfl ?_)
  try dsimp only
  refine wpAny_bind (wpAny_field (s := { s with toks := s.toks + 1 + 1 }) ho hd (x := rawInt ((items.size : Int) - 1)) rfl ?_)
  show wpAny _ _ (if ((items.size : Nat) : Int) < (items.size : Int) - 1 + 1 then _ else _) _ _ _
  rw [if_neg (by omega)]
  have e : (items.size : Int) - 1 + 1 = (items.size : Int) := by omega
  rw [e]
  first
    | exact wpAny_bind (wpAny_mkInt (wpAny_pure ⟨_, rfl, h _ _⟩))
    | (unfold retInt; exact wpAny_bind (wpAny_mkInt (wpAny_pure ⟨_, rfl, h _ _⟩)))
theorem extend_rt {R : Result → Shared → Prop} (hh : A.handled = none) {it t : Addr} {items : Array Value} (hit : IsRt s.heap it t ((items.size : Int) - 1)) (ht : IsTup s.heap t items) (hti : t ≠ it) (hz : items.size ≤ sizeLine)
    (S : Addr) (res : Value) (c0 : Nat) (hS : s.heap.get? S = some { cls := .type "list", data := .seq #[] c0 }) (hSi : S ≠ it) (hSt : S ≠ t)
    (hR : ∀ h' tk acc' c', (∀ b o, b ≠ S → b ≠ it → s.heap.get? b = some o → h'.get? b = some o) → h'.get? S = some { cls := .type "list", dict := none, data := .seq acc' c', slots := #[] } →
      ItemsOf (fun i v => items[items.size - 1 - i]? = some v) acc' items.size → R (.ok (.ret res)) { s with heap := h', toks := tk }) :
    wpAny (model prog w) A.in1 (Builtin.List.listExtendWith (.ref S) (.ref it) res)
      (fun fin s' => match fin with | .done f => R (.ok f) s' | .again c' => c'.quiet = true ∧ codeAny (model prog w) A c' R s') (fun e s' => R (.error e) s') s := by
  have hSf : S ∉ [it, t] := by simp only [List.mem_cons, List.not_mem_nil, or_false, not_or]; exact ⟨hSi, hSt⟩
  have hT : s.TypeIs (.ref it) "reversed" := hit.typeIs
  have W := (rtWalks (prog := prog) (w := w) (A := A.in1) hh it t hti items hz).toS
  have e0 : ((items.size : Nat) : Int) - 1 - ((0 : Nat) : Int) = (items.size : Int) - 1 := by omega
  unfold Builtin.List.listExtendWith
  refine wpAny_bind (wpAny_typeOf hT ?_)
  have h1 : Builtin.List.listSameRef (.ref S) (.ref it) = false := by simp [Builtin.List.listSameRef, hSi]
  rw [if_neg (by rw [h1]; decide)]
  refine wpAny_bind (iter_rt hit ?_)
  refine wpAny_bind (wpAny_holding ?_)
  unfold Builtin.List.listLengthHint
  refine wpAny_bind (wpAny_specialOf hT no_len ?_)
  show wpAny _ _ (specialOf (Value.ref it) (Str.ofString "__length_hint__") >>= _) _ _ _
  refine wpAny_bind (wpAny_specialOf hT has_hint ?_)
  generalize hid : ("reversed.__length_hint__" : String) = id0
  wp_delta
  rw [show splitId id0 = some ("reversed", "__length_hint__") from by subst hid; decide +kernel]
  subst hid
  refine wpAny_bind (wpAny_isInstance (b := true) hT F.sub_reversed_self ?_)
  show wpAny _ _ (rule "list.length-hint.hint" >>= _) _ _ _
  refine wpAny_bind (wpAny_rule ?_)
  have hbind : bindSpecial (.builtin "reversed.__length_hint__") (.ref it) = pure (.builtin "reversed.__length_hint__", [.ref it]) := by
    unfold bindSpecial
    rw [type_hint]
    rfl
  refine wpAny_bind (wpAny_of_eq hbind ?_)
  refine wpAny_bind (wpAny_attempt (hint_call hit ht hz fun k tk => ?_))
  show wpAny _ _ (asInt? (Value.int ((items.size : Nat) : Int) k) >>= _) _ _ _
  have ha : asInt? (Value.int ((items.size : Nat) : Int) k) = pure (some ((items.size : Nat) : Int)) := rfl
  rw [ha, pure_bind]
  rw [sizeLine_eq] at hz
  have f1 : Builtin.List.listFitsIndex ((items.size : Nat) : Int) = true := by
    unfold Builtin.List.listFitsIndex
    simp only [Bool.and_eq_true, decide_eq_true_eq]
    omega
  have f2 : Builtin.List.listTooLong (((items.size : Nat) : Int)).toNat = false := by
    unfold Builtin.List.listTooLong
    rw [sizeLine_eq]
    simp only [decide_eq_false_iff_not]
    omega
  dsimp only
  rw [if_neg (show ¬ (!Builtin.List.listFitsIndex ((items.size : Nat) : Int)) = true by rw [f1]; decide), if_neg (show ¬ ((items.size : Nat) : Int) < 0 by omega), if_neg (show ¬ Builtin.List.listTooLong (((items.size : Nat) : Int)).toNat = true by rw [f2]; decide)]
  refine wpAny_pure ?_
  have fin : ∀ (h2 : Heap), h2.get? S = some { cls := .type "list", dict := none, data := .seq #[] c0, slots := #[] } ∨ (∃ c1, h2.get? S = some { cls := .type "list", dict := none, data := .seq #[] c1, slots := #[] }) →
      (∀ b o, b ≠ S → s.heap.get? b = some o → h2.get? b = some o) →
      (fun fin s' => match fin with | .done f => R (.ok f) s' | .again c' => c'.quiet = true ∧ codeAny (model prog w) A c' R s') (PySem.Fin.again (.builtin "list.extend.loop" ⟨[.ref S, .ref it, res], []⟩)) { s with heap := h2, toks := tk } := by
    intro h2 hS2 k2
    obtain ⟨c1, hS2⟩ : ∃ c1, h2.get? S = some { cls := .type "list", dict := none, data := .seq #[] c1, slots := #[] } := by
      rcases hS2 with z | z
      · exact ⟨_, z⟩
      · exact z
    obtain ⟨ot, hot, rt⟩ := ht
    refine ⟨plainId_quiet F.plain_extend_loop _, codeAny_extend_loopS W (by rw [sizeLine_eq]; omega) S hSf res items.size 0 { s with heap := h2, toks := tk } #[] c1 rfl (Nat.zero_le _)
      ⟨Nat.zero_le _, by rw [e0]; exact hit.at fun o e => k2 it o (Ne.symm hSi) e, ⟨ot, k2 t ot (Ne.symm hSt) hot, rt⟩⟩ hS2 (ItemsOf.nil _) fun s' acc' c' hm hS' hacc => ?_⟩
    rw [Moved.eq_with hm]
    refine hR s'.heap s'.toks acc' c' (fun b o hb hb2 e => hm.heap b o (fun hmem => ?_) (k2 b o hb e)) hS' hacc
    rcases List.mem_cons.mp hmem with e' | hmem
    · exact hb e'
    · exact hb2 (List.mem_singleton.mp hmem)
  split
  · refine wpAny_bind (wpAny_rule ?_)
    refine wpAny_bind ?_
    show wpAny _ A.in1 (updateSeq S (·.push .none) >>= fun _ => updateSeq S (·.pop)) _ _ _
    refine wpAny_bind (wpAny_updateSeq (s := { s with toks := tk }) hS rfl ?_ (Nat.zero_le _) (by rw [sizeLine_eq]; show 1 ≤ _; decide))
    have hS3 := Heap.get?_update_self (Obj.mapSeq (·.push Value.none)) hS rfl
    refine wpAny_updateSeq (s := { s with heap := s.heap.update S (Obj.mapSeq (·.push Value.none)), toks := tk }) hS3 rfl ?_ (by rw [sizeLine_eq]; show 1 ≤ _; decide) (Nat.zero_le _)
    have hS4 := Heap.get?_update_self (Obj.mapSeq (·.pop)) hS3 rfl
    refine wpAny_pure (fin _ (.inr ⟨_, hS4⟩) fun b o hb e => ?_)
    exact (Heap.get?_update_other _ _ (Ne.symm hb)).trans ((Heap.get?_update_other _ _ (Ne.symm hb)).trans e)
  · exact wpAny_pure (fin s.heap (.inl hS) fun b o _ e => e)
theorem call_list_rt {Q : Value → Shared → Prop} (hh : A.handled = none) {it t : Addr} {items : Array Value} (hit : IsRt s.heap it t ((items.size : Int) - 1)) (ht : IsTup s.heap t items) (hti : t ≠ it) (hz : items.size ≤ sizeLine)
    (hQ : ∀ h' tk acc' c', (∀ b o, b ≠ it → s.heap.get? b = some o → h'.get? b = some o) →
      h'.get? s.heap.objs.size = some { cls := .type "list", dict := none, data := .seq acc' c', slots := #[] } → ItemsOf (fun i v => items[items.size - 1 - i]? = some v) acc' items.size → Q (.ref s.heap.objs.size) { s with heap := h', toks := tk }) :
    wpAny (model prog w) A (call (.type "list") [.ref it]) Q E s := by
  refine callType_codes (Q₁ := fun obj s1 => obj = .ref s.heap.objs.size ∧ s1 = { s with heap := s.heap.push { cls := .type "list", data := .seq #[] } }) F.called_list (F.typeCall_list_1 _) F.entry_list_init
    (code_list_new _ ⟨rfl, rfl⟩) fun obj s1 h1 => ?_
  obtain ⟨rfl, rfl⟩ := h1
  have hS : (s.heap.push { cls := .type "list", data := .seq #[] }).get? s.heap.objs.size = some { cls := .type "list", data := .seq #[] } := Heap.get?_push_size _ rfl
  have hS2 := Heap.get?_update_self (Obj.mapSeq (fun _ => (#[] : Array Value))) hS rfl
  have oth : ∀ b o, b ≠ s.heap.objs.size → (s.heap.push { cls := .type "list", data := .seq #[] }).get? b = some o → ((s.heap.push { cls := .type "list", data := .seq #[] }).update s.heap.objs.size (Obj.mapSeq (fun _ => (#[] : Array Value)))).get? b = some o :=
    fun b o hb e => (Heap.get?_update_other _ _ (Ne.symm hb)).trans e
  have old : ∀ b o, s.heap.get? b = some o → ((s.heap.push { cls := .type "list", data := .seq #[] }).update s.heap.objs.size (Obj.mapSeq (fun _ => (#[] : Array Value)))).get? b = some o :=
    fun b o e => oth b o (Nat.ne_of_lt (Heap.lt_size e)) (Heap.get?_push_of_some _ e)
  refine ⟨⟨_, hS, rfl⟩, F.args_list_init_2 _ _, ?_⟩
  show wpAny _ _ (do let old ← Builtin.List.listItems (.ref s.heap.objs.size); Builtin.List.listUpdate (.ref s.heap.objs.size) (fun _ => #[]); letGo old.toList.reverse; Builtin.List.listExtendWith (.ref s.heap.objs.size) (.ref it) .none) _ _ _
  refine wpAny_bind ?_
  unfold Builtin.List.listItems
  refine wpAny_bind (wpAny_seqItems hS rfl (wpAny_pure ?_))
  show wpAny _ _ (updateSeq s.heap.objs.size (fun _ => #[]) >>= fun _ => letGo (#[] : Array Value).toList.reverse >>= fun _ => Builtin.List.listExtendWith (.ref s.heap.objs.size) (.ref it) .none) _ _ _
  refine wpAny_bind (wpAny_updateSeq hS rfl ?_)
  refine wpAny_bind (wpAny_letGo ?_)
  obtain ⟨oi, hoi, ri⟩ := hit
  obtain ⟨ot, hot, rt⟩ := ht
  refine extend_rt (A := A.in1) hh ⟨oi, old _ _ hoi, ri⟩ ⟨ot, old _ _ hot, rt⟩ hti hz s.heap.objs.size .none _ hS2 (Nat.ne_of_gt (Heap.lt_size hoi)) (Nat.ne_of_gt (Heap.lt_size hot)) fun h' tk acc' c' hk hS' hacc => ?_
  exact ⟨rfl, hQ h' tk acc' c' (fun b o hb e => hk b o (Nat.ne_of_lt (Heap.lt_size e)) hb (old b o e)) hS' hacc⟩
end
end XR
namespace L2
open PySem PySem.Spec PyProof.Rows RT XR
/-- list(reversed(x)), x a tuple: a new list -/
def tListRev (K : PySem.W.Frag) (te : TE) : TE := fun σ H Q => te σ H fun v H1 => ∃ (a : Addr) (xs : List V), v = .ref a ∧ SqT K H1 a xs ∧ ∀ q, H1 q = none → Q (.ref q) (upd H1 q (.lst xs.reverse))
section
variable {X : Cx}
theorem pe_listRev {e : Expr} {te : TE} {p p2 pos pos2 : Pos} (hc : X.calm = true) (hg : Gl X "list") (hm : X.mg "list" = none) (hg2 : Gl X "reversed") (hm2 : X.mg "reversed" = none) (he : PE X e te)
    (hs : starEach [e] X.env = (false, eval e X.env) :: starEach [] X.env := by rfl)
    (hs2 : starEach [.Call (.Name "reversed" p2) [e] [] pos2] X.env = (false, eval (.Call (.Name "reversed" p2) [e] [] pos2) X.env) :: starEach [] X.env := by rfl) :
    PE X (.Call (.Name "list" p) [.Call (.Name "reversed" p2) [e] [] pos2] [] pos) (tListRev X.K te) := by
  refine ⟨fun pins s σ H Q I h => ?_⟩
  refine Call_ (ld_blt I hg hm boot_list (PyProof.Rows.callWith_type1 (args_cons (Call_ (ld_blt I hg2 hm2 PyProof.Rows.boot_reversed (PyProof.Rows.callWith_type1 (args_cons (thn (he.run pins s σ H _ I h) fun u s1 ⟨v, H1, I1, r1, q1⟩ => args_nil ?_) hs) hs rfl))) hs2) hs2 rfl))
  obtain ⟨a, xs, ev, hq, q⟩ := q1
  subst ev
  obtain rfl : u = Value.ref a := r1
  obtain ⟨its, rv, p', hz⟩ := I1.tuple hq
  have hl := rv.length
  have hn := line63
  have hsz : its.toArray.size ≤ sizeLine := by rw [List.size_toArray, ← rv.length]; exact hz
  refine call_reversed_tup p' (fun A E Q k => PyProof.Rows.len_tuple p' (by simp only [List.size_toArray] <;> omega) k) (args_nil ?_)
  have k0 : ∀ b o, s1.heap.get? b = some o → (s1.heap.push (rtObj a ((its.toArray.size : Int) - 1))).get? b = some o := fun b o e => Heap.get?_push_of_some _ e
  have I2 : Inv X pins σ H1 { s1 with heap := s1.heap.push (rtObj a ((its.toArray.size : Int) - 1)), toks := s1.toks + 1 + 1 } := I1.kept (t' := s1.toks + 1 + 1) k0
  have fp := I1.fpOk (H' := H1) (b := s1.heap.objs.size) (Nat.le_refl _) (I1.hok.fresh (Nat.le_refl _))
  have hlt : a < s1.heap.objs.size := by
    obtain ⟨o, ho, _⟩ := p'
    exact Heap.lt_size ho
  have p2' : IsTup (s1.heap.push (rtObj a ((its.toArray.size : Int) - 1))) a its.toArray := by
    obtain ⟨o, ho, r⟩ := p'
    exact ⟨o, Heap.get?_push_of_some _ ho, r⟩
  refine call_list_rt (s := { s1 with heap := s1.heap.push (rtObj a ((its.toArray.size : Int) - 1)), toks := s1.toks + 1 + 1 }) (I1.ok.hd hc) ⟨_, Heap.get?_push_size _ rfl, rfl, rfl⟩ p2' (Nat.ne_of_lt hlt) hsz fun h' tk acc c' hk hS' hi => ?_
  have r' := RT.vals_rev rv hi
  refine ⟨.ref _, upd H1 _ (.lst xs.reverse), I2.turnedNew (t' := tk) (ch := [s1.heap.objs.size]) (fun b o hb e => hk b o (fun z => hb (List.mem_singleton.mpr z)) e) (fun b hb => by rw [List.mem_singleton.mp hb]; exact fp) (Nat.le_refl _)
    (show ObjOk X.prog X.w _ _ _ (.lst xs.reverse) from ⟨by rw [List.length_reverse]; exact hz, acc.toList, c', r', by rw [Array.toArray_toList]; exact hS'⟩), rfl, q _ (I2.hok.fresh (Nat.le_refl _))⟩
end
end L2

set_option Elab.async false
set_option linter.all false
set_option maxRecDepth 100000
set_option maxHeartbeats 1000000
/-! list comprehensions of any number of clauses -/
namespace XC
open PySem PySem.Spec PyProof.Rows L2
/-- what stands behind the tests of clause k - 1: the next clause, or the element -/
def tailSem (e0 : Expr) (elt : Expr) (gs : List Comprehension) (k : Nat) (acc : Value) (env : Env) : Sem Unit :=
  match gs[k]? with
  | some g => do
    let x ← eval g.iter env
    standAt g.iter.pos
    let x ← foldedSetIterable g.iter env x
    let _ ← runOwn (.compStart e0 k (← holding [x] (pyIter x)) acc env) env
  | none => do let _ ← call (.builtin "list.append") [acc, ← eval elt env]
theorem turn_eq (elt : Expr) (gs : List Comprehension) (scope : Scope) (pos : Pos) (k : Nat) (tg iter : Expr) (ifs : List Expr) (hk : gs[k]? = some ⟨tg, iter, ifs, 0⟩) (hn : ∀ g, gs[k + 1]? = some g → g.is_async = 0) (it acc : Value) (env : Env) :
    compTurn (.ListComp elt gs scope pos) k it acc env = (do
      standAt iter.pos
      match ← pyNext it with
      | none => pure (.done .next)
      | some v =>
        letOwnedTupleGo tg it v
        assign tg env v
        let ok ← forIn ifs true fun c r => if r = true then do let ok ← isTrue c env (eval c env); pure (ForInStep.yield ok) else pure (ForInStep.yield r)
        if ok = true then
          tailSem (.ListComp elt gs scope pos) elt gs (k + 1) acc env
        again (.compLoop (.ListComp elt gs scope pos) k it acc env)) := by
  unfold compTurn tailSem
  dsimp only
  rw [hk]
  cases hg : gs[k + 1]? with
  | none =>
    simp only [bne_self_eq_false, Bool.false_eq_true, if_false, bind_assoc, pure_bind]
    rfl
  | some g =>
    have := hn g hg
    obtain ⟨a, b, c, d⟩ := g
    simp only at this
    subst this
    simp only [bne_self_eq_false, Bool.false_eq_true, if_false, bind_assoc, pure_bind]
    rfl
section
variable {prog : Program} {w : World} {A : Around} {R : Result → Shared → Prop} {s : Shared} {elt tg iter : Expr} {ifs : List Expr} {gs : List Comprehension} {scope : Scope} {pos : Pos} {k : Nat} {it acc : Value} {env : Env}
theorem loop_any (hk : gs[k]? = some ⟨tg, iter, ifs, 0⟩) (hn : ∀ g, gs[k + 1]? = some g → g.is_async = 0) (I : Nat → Shared → Prop)
    (turn : ∀ n s, I n s → wpAny (model prog w) A (pyNext it) (fun r s1 => match r with
      | none => R (.ok .next) s1
      | some v => wpAny (model prog w) A (letOwnedTupleGo tg it v) (fun _ s1' => wpAny (model prog w) A (assign tg env v) (fun _ s2 =>
          wpAny (model prog w) A (forIn ifs true fun c r => if r = true then do let ok ← isTrue c env (eval c env); pure (ForInStep.yield ok) else pure (ForInStep.yield r)) (fun ok s3 =>
            if ok = true then wpAny (model prog w) A (tailSem (.ListComp elt gs scope pos) elt gs (k + 1) acc env) (fun _ s5 => ∃ m, m < n ∧ I m s5) (notedBy (model prog w) A env fun e s' => R (.error e) s') s3
            else ∃ m, m < n ∧ I m s3) (notedBy (model prog w) A env fun e s' => R (.error e) s') s2) (notedBy (model prog w) A env fun e s' => R (.error e) s') s1') (notedBy (model prog w) A env fun e s' => R (.error e) s') s1) (notedBy (model prog w) A env fun e s' => R (.error e) s') s)
    (n : Nat) (h : I n s) :
    codeAny (model prog w) A (.compLoop (.ListComp elt gs scope pos) k it acc env) R s := by
  refine codeAny_loop rfl I (fun n s hI => ?_) n h
  show wpAny _ A ((compTurn (.ListComp elt gs scope pos) k it acc env).onRaise (fun x => do noteFrame x env; theTreesLotGoes x)) _ _ s
  refine wpAny_noted ?_
  rw [turn_eq elt gs scope pos k tg iter ifs hk hn]
  refine wpAny_bind (wpAny_standAt (wpAny_bind (wpAny_mono (turn n s hI) (fun r s1 h1 => ?_) fun _ _ h' => h')))
  cases r with
  | none => exact wpAny_pure h1
  | some v =>
    refine wpAny_bind (wpAny_mono h1 (fun _ s1' h1' => ?_) fun _ _ h' => h')
    refine wpAny_bind (wpAny_mono h1' (fun _ s2 h2 => wpAny_bind (wpAny_mono h2 (fun ok s3 h3 => ?_) fun _ _ h' => h')) fun _ _ h' => h')
    cases ok with
    | false => exact wpAny_pure ⟨rfl, h3⟩
    | true => exact wpAny_bind (wpAny_mono h3 (fun _ s5 h5 => wpAny_pure ⟨rfl, h5⟩) fun _ _ h' => h')
theorem start_any (hk : gs[k]? = some ⟨tg, iter, ifs, 0⟩) (h0 : codeAny (model prog w) A (.compLoop (.ListComp elt gs scope pos) k it acc env) R s)
    (h : wpAny (model prog w) A (pyIter it) (fun it' s' => codeAny (model prog w) A (.compLoop (.ListComp elt gs scope pos) k it' acc env) R s') (notedBy (model prog w) A env fun x s' => R (.error x) s') s) :
    codeAny (model prog w) A (.compStart (.ListComp elt gs scope pos) k it acc env) R s := by
  have hc : (clausesOf (.ListComp elt gs scope pos))[k]? = some ⟨tg, iter, ifs, 0⟩ := hk
  refine codeAny_of_tree ?_
  show wpAny _ _ ((compStart (.ListComp elt gs scope pos) k it acc env).onRaise (fun x => do noteFrame x env; standAt theWindowsPlace)) _ _ s
  refine wpAny_notedAt ?_
  unfold compStart
  rw [hc]
  show wpAny _ _ (ask >>= _) _ _ s
  refine wpAny_bind (wpAny_askSetting (wpAny_ite ?_))
  split
  · first
      | exact wpAny_bind (wpAny_pure (wpAny_pure (And.intro rfl h0)))
      | exact wpAny_pure (And.intro rfl h0)
  · first
      | exact wpAny_bind (wpAny_rule (wpAny_bind (wpAny_standAt (wpAny_bind (wpAny_mono h (fun it' s' h' => wpAny_pure (And.intro rfl h')) fun _ _ x => x)))))
      | (refine wpAny_bind (wpAny_rule ?_); show wpAny _ _ (standAt iter.pos >>= _) _ _ s; exact wpAny_bind (wpAny_standAt (wpAny_bind (wpAny_mono h (fun it' s' h' => wpAny_pure (And.intro rfl h')) fun _ _ x => x))))
end
/-- the part of a block behind the tests of clause k - 1; ws: the slots that it stores -/
structure PB (B : Cx) (e0 elt : Expr) (gs : List Comprehension) (k : Nat) (D : Addr) (ws : List Nat) (t : L2.St → Hp → (Hp → Prop) → Prop) : Prop where
  run : ∀ (pins : List (Addr × Obj)) (s : Shared) (σ : L2.St) (H : Hp) (N : Hp → Prop), Inv B pins σ H s → t σ H N →
    wpAny (model B.prog B.w) B.A (tailSem e0 elt gs k (.ref D) B.env) (fun _ s' => ∃ H', Inv B pins (wipe σ ws) H' s' ∧ N H') (fun _ _ => False) s
theorem weak_wipe {B : Cx} {pins : List (Addr × Obj)} {σ : L2.St} {H : Hp} {s : Shared} (I : Inv B pins σ H s) (ws : List Nat) : Inv B pins (wipe σ ws) H s := I.weak (wipe_length _ _) fun j v e => (wipe_some e).1
/-- the element -/
theorem pb_last {B : Cx} {e0 elt : Expr} {gs : List Comprehension} {k : Nat} {D : Addr} {te : TE} (hk : gs[k]? = none) (hxe : B.xe = fun _ _ => False) (he : PE B elt te) :
    PB B e0 elt gs k D [] fun σ H N => te σ H fun y H4 => ∃ acc, H4 D = some (.lst acc) ∧ acc.length < sizeLine ∧ N (upd H4 D (.lst (acc ++ [y]))) := ⟨fun pins s σ H N I h => by
  unfold tailSem
  rw [hk]
  refine wpAny_bind (wpAny_mono (he.run pins s σ H _ I h) (fun v s1 ⟨y, H1, I1, r1, acc, hD, hz, nx⟩ => ?_) fun e s' z => by rw [hxe] at z; exact z)
  exact wpAny_bind (app_ok (X := B) I1 hD hz r1 fun s2 I2 => wpAny_pure ⟨_, I2, nx⟩)⟩
/-- a further clause -/
def tMid (wi : TI) (g : TG) (tt : TT) (ws : List Nat) (tl : L2.St → Hp → (Hp → Prop) → Prop) : L2.St → Hp → (Hp → Prop) → Prop := fun σ H N => wi σ H fun J H1 => ∃ W : Nat → Nat → Hp → Prop, (∃ m, W 0 m H1) ∧ ∀ j k H, W j k H →
  (J.stop j H ∧ N H) ∨ (J.go j H ∧ ∃ Nx : Hp → Prop, (∀ H', Nx H' → ∃ k', k' < k ∧ W (j + 1) k' H') ∧ ∀ x H', J.yld j H x H' → g x (wipe σ ws) H' fun σ3 H5 => wipe σ3 ws = wipe σ ws ∧ tt σ3 H5 fun b H6 =>
    if b = true then tl σ3 H6 Nx else Nx H6)
theorem pb_mid {B : Cx} {elt tg iter : Expr} {ifs : List Expr} {gs : List Comprehension} {scope : Scope} {pos : Pos} {k : Nat} {D : Addr} {ws ws' : List Nat} {wi : TI} {g : TG} {tt : TT} {tl : L2.St → Hp → (Hp → Prop) → Prop}
    (hk : gs[k]? = some ⟨tg, iter, ifs, 0⟩) (hn : ∀ g, gs[k + 1]? = some g → g.is_async = 0) (hxe : B.xe = fun _ _ => False) (hc : B.calm = true) (hs : ∀ env x, foldedSetIterable iter env x = pure x)
    (hi : PI B tg iter wi) (hg : PG B tg g) (ht : PTs B ifs tt) (hw : ∀ i ∈ ws', i ∈ ws) (hb : PB B (.ListComp elt gs scope pos) elt gs (k + 1) D ws' tl) :
    PB B (.ListComp elt gs scope pos) elt gs k D ws (tMid wi g tt ws tl) := ⟨fun pins s σ H N I h => by
  have toF : ∀ {e : Value} {s' : Shared}, B.xe e s' → False := fun z => by rw [hxe] at z; exact z
  unfold tailSem
  rw [hk]
  refine wpAny_bind (wpAny_mono (hi.run pins s σ H _ I h) (fun xv s1 hx => ?_) fun _ _ z => toF z)
  refine wpAny_bind (wpAny_standAt ?_)
  refine wpAny_bind (wpAny_of_eq (hs B.env xv) (wpAny_bind (wpAny_holding (wpAny_mono hx (fun itv s2 h2 => ?_) fun _ _ z => toF z))))
  obtain ⟨it1, fp1, tn1, J1, H2, e1, I2, T1, st2, f2, W1, ⟨m1, w1⟩, turn1⟩ := h2
  subst e1
  have stat1 : ∀ {H' : Hp}, (∀ b ∈ fp1, H' b = none) → ∀ b ∈ fp1, FpOk B pins H' b := fun hn b hb => ⟨hn b hb, (f2 b hb).2⟩
  have loop1 : codeAny (model B.prog B.w) B.A (.compLoop (.ListComp elt gs scope pos) k (.ref it1) (.ref D) B.env)
      (fun r s' => match r with
        | .ok _ => ∃ H', Inv B pins (wipe σ ws) H' s' ∧ N H'
        | .error _ => False) s2 := by
    refine loop_any hk hn (fun n s' => ∃ j H', Inv B pins (wipe σ ws) H' s' ∧ tn1 j s'.heap ∧ (∀ b ∈ fp1, H' b = none) ∧ W1 j n H') ?_ m1 ⟨0, H2, weak_wipe I2 ws, st2, fun b hb => (f2 b hb).1, w1⟩
    rintro n s3 ⟨j, H3, I3, st3, n3, w3⟩
    rcases turn1 j n H3 w3 with ⟨stop1, nx1⟩ | ⟨go1, Nx1, hNx1, step1⟩
    · refine thnF (T1.done B rfl rfl rfl hc j _ s3 (wipe σ ws) H3 (fun _ _ => False) I3 (stat1 n3) st3 stop1) fun r s4 ⟨hr, I4⟩ => ?_
      subst hr
      exact ⟨H3, I4, nx1⟩
    · refine thnF (T1.item B rfl rfl rfl hc j _ s3 (wipe σ ws) H3 (fun _ _ => False) I3 (stat1 n3) st3 go1) fun r s4 ⟨u1, hr, h4⟩ => ?_
      subst hr
      refine thnF h4 fun _ s5 ⟨x1, H5, I5, r5, y5, st5, n5⟩ => ?_
      have I5' := I5.pinned (stat1 n5) (T1.obj _ _ st5)
      refine wpAny_mono (hg.run _ s5 (wipe σ ws) H5 x1 u1 _ I5' r5 (step1 x1 H5 y5)) (fun _ s6 ⟨σ6, H6, I6, hw6, q6⟩ => ?_) fun _ _ z => (toF z).elim
      refine wpAny_mono (ht.run _ s6 σ6 H6 _ I6 q6) (fun b1 s7 ⟨H7, I7, q7⟩ => ?_) fun _ _ z => (toF z).elim
      have fin1 : ∀ {s' : Shared} {H' : Hp}, Inv B (pins ++ pinsAt fp1 s5.heap) (wipe σ6 ws) H' s' → Nx1 H' → ∃ m, m < n ∧ ∃ j H', Inv B pins (wipe σ ws) H' s' ∧ tn1 j s'.heap ∧ (∀ b ∈ fp1, H' b = none) ∧ W1 j m H' := fun {s' H'} I' nx => by
        obtain ⟨m', hm, w'⟩ := hNx1 H' nx
        have pin' : ∀ b ∈ fp1, ∀ o, s5.heap.get? b = some o → s'.heap.get? b = some o ∧ H' b = none := fun b hb o e =>
          let z := I'.pin (b, o) (List.mem_append_right _ (List.mem_append_right _ (mem_pinsAt hb e)))
          ⟨z.1, z.2.1⟩
        rw [hw6] at I'
        refine ⟨m', hm, j + 1, H', I'.unpinned, T1.keep _ _ _ st5 fun b hb o e => (pin' b hb o e).1, fun b hb => ?_, w'⟩
        obtain ⟨o, e, _⟩ := T1.obj _ _ st5 b hb
        exact (pin' b hb o e).2
      cases b1 with
      | false =>
        simp only [Bool.false_eq_true, if_false] at q7 ⊢
        exact fin1 (weak_wipe I7 ws) q7
      | true =>
        simp only [if_true] at q7 ⊢
        refine thnF (hb.run _ s7 σ6 H7 _ I7 q7) fun _ s8 ⟨H8, I8, nx⟩ => fin1 (I8.weak (by rw [wipe_length, wipe_length]) fun j v e => ?_) nx
        obtain ⟨z1, z2⟩ := wipe_some e
        rw [wipe_out fun m => z2 (hw j m)]
        exact z1
  refine wpAny_bind (wpAny_runOwn ?_)
  rw [Around.mark_none]
  refine codeAny_mono (start_any hk loop1 (T1.self B.A 0 _ _ _ st2 loop1)) fun r s' hr => ?_
  cases r with
  | ok f =>
    first
      | exact wpAny_pure hr
      | exact hr
  | error e => exact hr.elim⟩
section
variable {X : Cx}
/-- [elt for tg in iter if .. rest]: tl, by the new list, is the reading of what stands behind the first clause's tests -/
def tLcN (wi : TI) (g : TG) (tt : TT) (vs : List Nat) (tl : Addr → L2.St → Hp → (Hp → Prop) → Prop) : TE := fun σ H Q => wi σ H fun J H1 => ∀ D, H1 D = none → ∃ W : Nat → Nat → Hp → Prop, (∃ m, W 0 m (upd H1 D (.lst []))) ∧ ∀ i m H, W i m H →
  (J.stop i H ∧ Q (.ref D) H) ∨ (J.go i H ∧ ∃ Nx : Hp → Prop, (∀ H', Nx H' → ∃ m', m' < m ∧ W (i + 1) m' H') ∧ ∀ x H', J.yld i H x H' → g x (wipe σ vs) H' fun σ2 H2 => wipe σ2 vs = wipe σ vs ∧ tt σ2 H2 fun b H3 =>
    if b = true then tl D σ2 H3 Nx else Nx H3)
theorem lcN_core {pins : List (Addr × Obj)} {s : Shared} {σ : L2.St} {H : Hp} {Q : VK} {elt tg iter : Expr} {ifs : List Expr} {rest : List Comprehension} {scope : Scope} {own : List (Str × Nat)} {ws' : List Nat} {pos pos' : Pos} {wi : TI} {g : TG} {tt : TT} {tl : Addr → L2.St → Hp → (Hp → Prop) → Prop} {use : Option (Value → Sem Unit)} {Qf : Value → Shared → Prop}
    (hc : X.calm = true) (hN : X.N.Nodup) (I : Inv X pins σ H s) (hi : PI X tg iter wi) (ok : BlkOk X.N X.env.scope scope own) (hw : ∀ i ∈ ws', i ∈ own.map (·.2)) (hn : ∀ g, rest[0]? = some g → g.is_async = 0)
    (hg : ∀ (s : Shared) (H : Hp) (C : Addr) (cl : List (Str × Addr)) (fp : List Addr), PG (X.blk s H scope (compEnvC scope cl C X.env) fp) tg g) (ht : ∀ (s : Shared) (H : Hp) (C : Addr) (cl : List (Str × Addr)) (fp : List Addr), PTs (X.blk s H scope (compEnvC scope cl C X.env) fp) ifs tt)
    (hb : ∀ (s : Shared) (H : Hp) (C : Addr) (cl : List (Str × Addr)) (fp : List Addr) (D : Addr), PB (X.blk s H scope (compEnvC scope cl C X.env) fp) (.ListComp elt (⟨tg, iter, ifs, 0⟩ :: rest) scope pos) elt (⟨tg, iter, ifs, 0⟩ :: rest) 1 D ws' (tl D)) (hs : ∀ x, foldedSetIterable iter X.env x = pure x)
    (h : tLcN wi g tt (own.map (·.2)) tl σ H Q)
    (hRR : ∀ D C s' m H', Inv X pins σ H' s' → Q (.ref D) H' → s'.heap.Ns C m → FpOk X pins H' C → compPost (model X.prog X.w) X.A X.xe use Qf (.ref D) C (.ok .next) s') :
    wpAny (model X.prog X.w) X.A (comprehension (.ListComp elt (⟨tg, iter, ifs, 0⟩ :: rest) scope pos) scope X.env pos' (newList []) false (eval iter X.env) use) Qf X.xe s := by
  have hfree : ∀ y ∈ scope.names, y.2 = .free → ∃ c, X.env.cells.lookup y.1 = some c := fun y hy e => by
    rcases ok.free y hy e with k | k
    · exact I.ok.has _ (.inl k)
    · exact I.ok.has _ (.inr k)
  refine wpAny_comprehension_free (use := use) rfl hs (closure_ok hfree) ok.kind (fun y hy e => by rw [ok.uniq y hy, e])
    (thn (hi.run pins s σ H _ I h) fun xv s1 hx => thn hx fun itv s2 h2 => ?_)
  obtain ⟨it, fp, tn, J, H2, e, I2, T, st2, f2, q⟩ := h2
  subst e
  refine wpAny_newObj_type (newEnv_comp ?_) (by show 0 ≤ sizeLine; decide)
  generalize hD : s2.heap.objs.size = D
  obtain ⟨W, ⟨m0, w0⟩, turn⟩ := q D (I2.hok.fresh (Nat.le_of_eq hD))
  generalize hs3 : ({ s2 with heap := s2.heap.push { cls := .type "list", data := .seq ([] : List Value).toArray } } : Shared) = s3
  have I3 : Inv X pins σ (upd H2 D (.lst [])) s3 := by
    rw [← hs3]
    refine I2.laid (t' := s2.toks) (fun b o e => Heap.get?_push_of_some _ e) (Nat.le_of_eq hD) ⟨Nat.zero_le _, [], 0, .nil, ?_⟩
    rw [← hD]
    exact Heap.get?_push_size _ rfl
  have h3 : s3.heap = s2.heap.push { cls := .type "list", data := .seq ([] : List Value).toArray } := by rw [← hs3]
  have f3 : ∀ b ∈ fp, FpOk X pins (upd H2 D (.lst [])) b ∧ b < s3.heap.objs.size := fun b hb => by
    obtain ⟨o, e, _⟩ := T.obj _ _ st2 b hb
    have hlt := Heap.lt_size e
    refine ⟨⟨?_, (f2 b hb).2⟩, by rw [h3, Heap.size_push]; exact Nat.lt_succ_of_lt hlt⟩
    rw [upd_ne (by rw [← hD]; exact Nat.ne_of_lt hlt)]
    exact (f2 b hb).1
  have st3 : tn 0 s3.heap := T.keep _ _ _ st2 fun b _ o e => by rw [h3]; exact Heap.get?_push_of_some _ e
  have I4 := block_start I3 ok hN f3
  have pg := hg s3 (upd H2 D (.lst [])) s3.heap.objs.size (cellsFrom (s3.heap.objs.size + 1) scope.names (cloFrom X.env.cells scope.names [])) fp
  have pt := ht s3 (upd H2 D (.lst [])) s3.heap.objs.size (cellsFrom (s3.heap.objs.size + 1) scope.names (cloFrom X.env.cells scope.names [])) fp
  have pb := hb s3 (upd H2 D (.lst [])) s3.heap.objs.size (cellsFrom (s3.heap.objs.size + 1) scope.names (cloFrom X.env.cells scope.names [])) fp D
  show codeAny _ _ (.compStart (.ListComp elt (⟨tg, iter, ifs, 0⟩ :: rest) scope pos) 0 (.ref it) (.ref D) (compEnvC scope (cellsFrom (s3.heap.objs.size + 1) scope.names (cloFrom X.env.cells scope.names [])) s3.heap.objs.size X.env)) (compPost (model X.prog X.w) X.A X.xe use Qf (.ref D) s3.heap.objs.size) { s3 with heap := pushCells (s3.heap.push { cls := .type "dict", data := .dict #[] }) scope.names }
  have nfp : ∀ b ∈ fp, (upd H2 D (.lst [])) b = none := fun b hb => (f3 b hb).1.1
  generalize hce : compEnvC scope (cellsFrom (s3.heap.objs.size + 1) scope.names (cloFrom X.env.cells scope.names [])) s3.heap.objs.size X.env = ce at I4 pg pt pb ⊢
  have cL : ce.locals = s3.heap.objs.size := by subst hce; rfl
  generalize hH3 : upd H2 D (.lst []) = H3 at I3 I4 pg pt pb w0 nfp f3
  generalize hs4 : ({ s3 with heap := pushCells (s3.heap.push { cls := .type "dict", data := .dict #[] }) scope.names } : Shared) = s4 at I4 ⊢
  have st4 : tn 0 s4.heap := T.keep _ _ _ st3 fun b _ o e => by rw [← hs4]; exact pushCells_keeps _ _ _ _ (Heap.get?_push_of_some _ e)
  have stat : ∀ {σ' : L2.St} {H' : Hp} {s' : Shared}, Inv (X.blk s3 H3 scope ce fp) [] σ' H' s' → (∀ b ∈ fp, H' b = none) → ∀ b ∈ fp, FpOk (X.blk s3 H3 scope ce fp) [] H' b := fun {σ' H' s'} I' hn b hb =>
    ⟨hn b hb, (I'.ok.exf b hb).1, I'.ok.exfs b hb, .inl hb, fun x c e => (I'.ok.exf b hb).2 x c e, fun p hp => absurd (show p ∈ ([] : List (Addr × Obj)) ++ [] from hp) (by simp)⟩
  have loop : codeAny (model X.prog X.w) X.A (.compLoop (.ListComp elt (⟨tg, iter, ifs, 0⟩ :: rest) scope pos) 0 (.ref it) (.ref D) ce) (compPost (model X.prog X.w) X.A X.xe use Qf (.ref D) s3.heap.objs.size) s4 := by
    refine loop_any (k := 0) (gs := ⟨tg, iter, ifs, 0⟩ :: rest) rfl (fun g hg => hn g hg) (fun n s' => ∃ i H', Inv (X.blk s3 H3 scope ce fp) [] (wipe σ (own.map (·.2))) H' s' ∧ tn i s'.heap ∧ (∀ b ∈ fp, H' b = none) ∧ W i n H') ?_ m0 ⟨0, H3, I4, st4, nfp, w0⟩
    rintro n s5 ⟨i, H5, I5, st5, n5, w5⟩
    rcases turn i n H5 w5 with ⟨stop, qq⟩ | ⟨go, Nx, hNx, step⟩
    · have td := T.done (X.blk s3 H3 scope ce fp) rfl rfl rfl hc i [] s5 _ H5 (fun _ _ => False) I5 (stat I5 n5) st5 stop
      refine thnF td fun r s6 ⟨hr, I6⟩ => ?_
      subst hr
      have I7 : Inv X pins σ H5 s6 := I3.call' (ch := fp) I6.os I6.base I6.hok I6.bare fun b hb => ⟨(f3 b hb).1.2.2.2.1, (f3 b hb).1.2.1, (f3 b hb).1.2.2.2.2.1, (f3 b hb).1.2.2.2.2.2⟩
      have nC : H5 s3.heap.objs.size = none := by
        have z : H5 ce.locals = none := I6.free
        rw [cL] at z
        exact z
      obtain ⟨m, hn, _⟩ := I6.loc
      have hn : s6.heap.Ns ce.locals m := hn
      rw [cL] at hn
      exact hRR D s3.heap.objs.size s6 m H5 I7 qq hn (I3.fpOk (Nat.le_refl _) nC)
    · have ti := T.item (X.blk s3 H3 scope ce fp) rfl rfl rfl hc i [] s5 _ H5 (fun _ _ => False) I5 (stat I5 n5) st5 go
      refine thnF ti fun r s6 ⟨u, hr, h6⟩ => ?_
      subst hr
      refine thnF h6 fun _ s7 ⟨x, H7, I7, r7, y7, st7, n7⟩ => ?_
      have I7' := I7.pinned (stat I7 n7) (T.obj _ _ st7)
      refine thnF (pg.run _ s7 _ H7 x u _ I7' r7 (step x H7 y7)) fun _ s8 ⟨σ8, H8, I8, hw8, q8⟩ => ?_
      refine thnF (pt.run _ s8 σ8 H8 _ I8 q8) fun b s9 ⟨H9, I9, q9⟩ => ?_
      have fin : ∀ {s' : Shared} {H' : Hp}, Inv (X.blk s3 H3 scope ce fp) ([] ++ pinsAt fp s7.heap) (wipe σ8 (own.map (·.2))) H' s' → Nx H' → ∃ m, m < n ∧ ∃ i H', Inv (X.blk s3 H3 scope ce fp) [] (wipe σ (own.map (·.2))) H' s' ∧ tn i s'.heap ∧ (∀ b ∈ fp, H' b = none) ∧ W i m H' := fun {s' H'} I' nx => by
        obtain ⟨m', hm, w'⟩ := hNx H' nx
        have pin' : ∀ b ∈ fp, ∀ o, s7.heap.get? b = some o → s'.heap.get? b = some o ∧ H' b = none := fun b hb o e =>
          let z := I'.pin (b, o) (List.mem_append_right _ (List.mem_append_right _ (mem_pinsAt hb e)))
          ⟨z.1, z.2.1⟩
        rw [hw8] at I'
        refine ⟨m', hm, i + 1, H', I'.unpinned (pins := []), T.keep _ _ _ st7 fun b hb o e => (pin' b hb o e).1, fun b hb => ?_, w'⟩
        obtain ⟨o, e, _⟩ := T.obj _ _ st7 b hb
        exact (pin' b hb o e).2
      cases b with
      | false =>
        simp only [Bool.false_eq_true, if_false] at q9 ⊢
        exact fin (weak_wipe I9 _) q9
      | true =>
        simp only [if_true] at q9 ⊢
        refine thnF (pb.run _ s9 σ8 H9 _ I9 q9) fun _ s10 ⟨H10, I10, nx⟩ => fin (I10.weak (by rw [wipe_length, wipe_length]) fun j v e => ?_) nx
        obtain ⟨z1, z2⟩ := wipe_some e
        rw [wipe_out fun m => z2 (hw j m)]
        exact z1
  exact codeAny_compStart_list loop (T.self X.A 0 _ _ _ st4 loop)
/-- as a value -/
theorem pe_lcN {elt tg iter : Expr} {ifs : List Expr} {rest : List Comprehension} {scope : Scope} {own : List (Str × Nat)} {ws' : List Nat} {pos : Pos} {wi : TI} {g : TG} {tt : TT} {tl : Addr → L2.St → Hp → (Hp → Prop) → Prop} (hc : X.calm = true) (hN : X.N.Nodup) (hi : PI X tg iter wi) (ok : BlkOk X.N X.env.scope scope own)
    (hw : ∀ i ∈ ws', i ∈ own.map (·.2)) (hn : ∀ g, rest[0]? = some g → g.is_async = 0)
    (hg : ∀ (s : Shared) (H : Hp) (C : Addr) (cl : List (Str × Addr)) (fp : List Addr), PG (X.blk s H scope (compEnvC scope cl C X.env) fp) tg g) (ht : ∀ (s : Shared) (H : Hp) (C : Addr) (cl : List (Str × Addr)) (fp : List Addr), PTs (X.blk s H scope (compEnvC scope cl C X.env) fp) ifs tt)
    (hb : ∀ (s : Shared) (H : Hp) (C : Addr) (cl : List (Str × Addr)) (fp : List Addr) (D : Addr), PB (X.blk s H scope (compEnvC scope cl C X.env) fp) (.ListComp elt (⟨tg, iter, ifs, 0⟩ :: rest) scope pos) elt (⟨tg, iter, ifs, 0⟩ :: rest) 1 D ws' (tl D)) (hs : ∀ x, foldedSetIterable iter X.env x = pure x := by intro _; rfl) :
    PE X (.ListComp elt (⟨tg, iter, ifs, 0⟩ :: rest) scope pos) (tLcN wi g tt (own.map (·.2)) tl) := by
  refine ⟨fun pins s σ H Q I h => ?_⟩
  rw [eval_ListComp]
  refine lcN_core hc hN I hi ok hw hn hg ht hb hs h fun D C s' m H' I' q hn f => ⟨m, hn, fun h'' sb => ?_⟩
  obtain ⟨f0, f1, f2, f3, f4, f5⟩ := f
  exact ⟨.ref D, H', I'.turned (t' := s'.toks) (fun b o hb e => (sb.2 b hb).trans e) f0 f1 f3 f4 f5, rfl, q⟩
end
end XC

set_option Elab.async false
set_option linter.all false
set_option maxRecDepth 100000
set_option maxHeartbeats 2000000
/-! sorted(xs, key=f) where f gives texts -/
namespace XK
open PySem PySem.Spec PyProof.Rows SrtO
/-! ### the order -/
def ltS (p q : Keyed) : Bool := decide ((strOf p.1).cps.toList < (strOf q.1).cps.toList)
def ltT {α : Type} (k : α → Str) (p q : α) : Bool := decide ((k p).cps.toList < (k q).cps.toList)
theorem swoT {α : Type} (k : α → Str) : Swo (ltT k) where
  asym := fun x y h => by
    unfold ltT at *
    rw [decide_eq_true_eq] at h
    rw [decide_eq_false_iff_not]
    exact fun z => List.lt_irrefl _ (List.lt_trans h z)
  tr := fun x y z h1 h2 => by
    unfold ltT at *
    rw [decide_eq_false_iff_not] at *
    exact List.not_lt.mpr (List.le_trans (List.not_lt.mp h1) (List.not_lt.mp h2))
theorem swoS : Swo ltS := swoT (fun p : Keyed => strOf p.1)
theorem cmpS {prog : Program} {w : World} {A : Around} {s : Shared} : Cmp prog w A s oneType' (fun p => ∃ x t, p.1 = Value.str x t) ltS := by
  rintro ⟨_, p2⟩ ⟨_, q2⟩ ⟨x, t, rfl⟩ ⟨y, u, rfl⟩
  rw [keyLt'_oneType]
  exact oneLt_str ⟨rfl, rfl⟩
/-- not less either way: the same -/
theorem text_eq {x y : Str} (h1 : ¬ x.cps.toList < y.cps.toList) (h2 : ¬ y.cps.toList < x.cps.toList) : x = y := by
  have e := List.le_antisymm (List.not_lt.mp h2) (List.not_lt.mp h1)
  cases x; cases y
  simp only [Str.mk.injEq]
  exact Array.toList_inj.mp e
/-- the address of an object -/
def bkA : Value → Addr
  | .ref a => a
  | _ => 0
/-- ys: xs, sorted by the texts k of its items, stable -/
structure IsSort {α : Type} (k : α → Str) (ys xs : List α) : Prop where
  rise : ys.Pairwise fun x y => ¬ (k y).cps.toList < (k x).cps.toList
  perm : ys.Perm xs
  cls : ∀ x : Str, ys.filter (fun z => decide (k z = x)) = xs.filter (fun z => decide (k z = x))
theorem srt_unique {α : Type} {k : α → Str} : ∀ (l l' : List α), l.Pairwise (fun x y => ¬ (k y).cps.toList < (k x).cps.toList) → l'.Pairwise (fun x y => ¬ (k y).cps.toList < (k x).cps.toList) → l.Perm l' →
    (∀ x : Str, l.filter (fun z => decide (k z = x)) = l'.filter (fun z => decide (k z = x))) → l = l'
  | [], l', _, _, p, _ => by
    have := p.length_eq
    cases l' with
    | nil => rfl
    | cons _ _ => simp at this
  | a :: r, [], _, _, p, _ => by
    have := p.length_eq
    simp at this
  | a :: r, b :: r', h1, h2, p, hc => by
    have hab : k b = k a := by
      have mb : b ∈ a :: r := p.mem_iff.mpr List.mem_cons_self
      have ma : a ∈ b :: r' := p.mem_iff.mp List.mem_cons_self
      refine text_eq ?_ ?_
      · rcases List.mem_cons.mp mb with e | m
        · rw [e]; exact List.lt_irrefl _
        · exact (List.pairwise_cons.mp h1).1 b m
      · rcases List.mem_cons.mp ma with e | m
        · rw [e]; exact List.lt_irrefl _
        · exact (List.pairwise_cons.mp h2).1 a m
    have q := hc (k a)
    rw [List.filter_cons_of_pos (by simp), List.filter_cons_of_pos (by simp [hab])] at q
    obtain ⟨rfl, q2⟩ := List.cons.inj q
    refine congrArg _ (srt_unique r r' (List.pairwise_cons.mp h1).2 (List.pairwise_cons.mp h2).2 (List.Perm.cons_inv p) fun x => ?_)
    have qx := hc x
    by_cases hx : k a = x
    · rw [List.filter_cons_of_pos (by simp [hx]), List.filter_cons_of_pos (by simp [hx])] at qx
      exact (List.cons.inj qx).2
    · rw [List.filter_cons_of_neg (by simp [hx]), List.filter_cons_of_neg (by simp [hx])] at qx
      exact qx
theorem IsSort.unique {α : Type} {k : α → Str} {ys zs xs : List α} (h1 : IsSort k ys xs) (h2 : IsSort k zs xs) : ys = zs :=
  srt_unique ys zs h1.rise h2.rise (h1.perm.trans h2.perm.symm) fun x => (h1.cls x).trans (h2.cls x).symm
theorem IsSort.map {α β : Type} {k : α → Str} {k' : β → Str} (f : α → β) {ys xs : List α} (h : IsSort k ys xs) (e : ∀ x ∈ xs, k' (f x) = k x) : IsSort k' (ys.map f) (xs.map f) := by
  have ey : ∀ y ∈ ys, k' (f y) = k y := fun y hy => e y (h.perm.mem_iff.mp hy)
  refine ⟨?_, h.perm.map f, fun x => ?_⟩
  · refine List.pairwise_map.mpr (List.Pairwise.imp_of_mem (fun {a b} ha hb q => ?_) h.rise)
    rw [ey a ha, ey b hb]
    exact q
  · rw [List.filter_map, List.filter_map]
    have f1 : ys.filter ((fun z => decide (k' z = x)) ∘ f) = ys.filter (fun z => decide (k z = x)) := List.filter_congr fun z hz => by
      show decide (k' (f z) = x) = _
      rw [ey z hz]
    have f2 : xs.filter ((fun z => decide (k' z = x)) ∘ f) = xs.filter (fun z => decide (k z = x)) := List.filter_congr fun z hz => by
      show decide (k' (f z) = x) = _
      rw [e z hz]
    rw [f1, f2, h.cls x]
/-- from what the sort says of its pairs -/
theorem isSort_of {arr : List Keyed} {m : List Keyed} (h1 : Srtd ltS arr) (h2 : Stb ltS arr m) : IsSort (fun p : Keyed => strOf p.1) arr m := by
  refine ⟨h1.imp fun {a b} q => ?_, h2.perm, fun x => ?_⟩
  · unfold ltS at q
    exact of_decide_eq_false q
  · have q := h2.cls (Value.str x 0, Value.none)
    have f1 : ∀ l : List Keyed, l.filter (eqv ltS (Value.str x 0, Value.none)) = l.filter (fun z => decide (strOf z.1 = x)) := fun l => List.filter_congr fun z _ => by
      unfold eqv ltS
      show (!decide (x.cps.toList < (strOf z.1).cps.toList) && !decide ((strOf z.1).cps.toList < x.cps.toList)) = _
      by_cases hz : strOf z.1 = x
      · rw [hz]
        simp [List.lt_irrefl]
      · rw [decide_eq_false hz]
        by_cases c1 : x.cps.toList < (strOf z.1).cps.toList
        · simp [c1]
        · by_cases c2 : (strOf z.1).cps.toList < x.cps.toList
          · simp [c2]
          · exact absurd (text_eq c2 c1) hz
    rw [f1, f1] at q
    exact q
section
variable {prog : Program} {w : World} {A : Around} {E : Value → Shared → Prop} {s : Shared} {a kS : Addr} {keys : Array Value} {vs : List Value} {ks : List Str} {e e1 : Nat} {P : PySem.Fin → Shared → Prop}
theorem tailS {st : SortSt} (hk : s.heap.get? kS = some (seqObj "list" keys e)) (ha : s.heap.get? a = some (seqObj "list" #[] e1)) (hka : kS ≠ a) (hz1 : keys.size ≤ sizeLine) (hz2 : (arrOf st).size ≤ sizeLine) (hfl : failedOf st = none)
    (h : ∀ h' c, h'.get? a = some (seqObj "list" ((arrOf st).map (·.2)) c) → (∀ b o, b ≠ kS → b ≠ a → s.heap.get? b = some o → h'.get? b = some o) → P (.done (.ret .none)) { s with heap := h' }) :
    wpAny (model prog w) A (ksk_tail a false e1 (.ref kS) st) P E s := by
  have s1 := Heap.SameBut.update s.heap kS (Obj.mapSeq fun _ => (#[] : Array Value))
  have na1 : (s.heap.update kS (Obj.mapSeq fun _ => (#[] : Array Value))).get? a = some (seqObj "list" #[] e1) := (s1.2 a hka.symm).trans ha
  have s2 := Heap.SameBut.update (s.heap.update kS (Obj.mapSeq fun _ => (#[] : Array Value))) a (Obj.mapSeq fun _ => (arrOf st).map (·.2))
  obtain ⟨c2, hc2⟩ : ∃ c2, ((s.heap.update kS (Obj.mapSeq fun _ => (#[] : Array Value))).update a (Obj.mapSeq fun _ => (arrOf st).map (·.2))).get? a = some (seqObj "list" ((arrOf st).map (·.2)) c2) :=
    ⟨_, get?_update_seq na1 fun _ => (arrOf st).map (·.2)⟩
  unfold ksk_tail
  try dsimp only
  refine wpAny_bind (listUpdate_at hk rfl ?_ hz1 (Nat.zero_le _))
  refine wpAny_bind (wpAny_letGo ?_)
  refine wpAny_bind (seqEpoch_at na1 rfl ?_)
  refine wpAny_bind (listUpdate_at na1 rfl ?_ (Nat.zero_le _) (by simp only [Bool.false_eq_true, if_false, Array.size_map]; omega))
  rw [hfl]
  simp only [bne_self_eq_false, Bool.false_eq_true, if_false]
  exact wpAny_pure (h _ c2 hc2 fun b o h1 h2 q => (s2.2 b h2).trans ((s1.2 b h1).trans q))
theorem endS (hk : s.heap.get? kS = some (seqObj "list" keys e)) (ha : s.heap.get? a = some (seqObj "list" #[] e1)) (hka : kS ≠ a) (hz : vs.length ≤ sizeLine) (hS : StrsAre keys.toList ks) (hlen : ks.length = vs.length)
    (h : ∀ h' c (arr : List Keyed), IsSort (fun p : Keyed => strOf p.1) arr (keys.toList.zip vs) → h'.get? a = some (seqObj "list" (arr.map (·.2)).toArray c) → (∀ b o, b ≠ kS → b ≠ a → s.heap.get? b = some o → h'.get? b = some o) → P (.done (.ret .none)) { s with heap := h' }) :
    wpAny (model prog w) A (ksk_end a false vs.toArray e1 (.ref kS) keys) P E s := by
  have hks : keys.size = vs.length := by
    have q := hS.len_eq
    rw [Array.length_toList] at q
    omega
  have hzt : (keys.zip vs.toArray).toList = keys.toList.zip vs := ksk_zip keys vs
  have hzs : (keys.zip vs.toArray).size = vs.length := by rw [← Array.length_toList, hzt, List.length_zip, Array.length_toList, hks, Nat.min_self]
  have fin : ∀ st : SortSt, IsSort (fun p : Keyed => strOf p.1) (arrOf st).toList (keys.toList.zip vs) → failedOf st = none → wpAny (model prog w) A (ksk_tail a false e1 (.ref kS) st) P E s := fun st hs hf => by
    have hl : (arrOf st).size = vs.length := by
      rw [← Array.length_toList, hs.perm.length_eq, List.length_zip, Array.length_toList, hks, Nat.min_self]
    refine tailS hk ha hka (by omega) (by omega) hf fun h' c g1 g2 => h h' c _ hs ?_ g2
    rw [g1]
    have e : ((arrOf st).toList.map (·.2)).toArray = (arrOf st).map (·.2) := by
      apply Array.ext'
      simp
    rw [e]
  unfold ksk_end
  simp only [Bool.false_eq_true, if_false]
  by_cases h2 : vs.toArray.size < 2
  · rw [if_pos h2, if_pos h2]
    refine wpAny_bind (wpAny_pure ?_)
    rw [StateT.run_pure]
    refine wpAny_bind (wpAny_pure ?_)
    try dsimp only
    refine fin (SortSt.mk' general' (keys.zip vs.toArray) #[] 7 none) ?_ rfl
    have q : (arrOf (SortSt.mk' general' (keys.zip vs.toArray) #[] 7 none)).toList = keys.toList.zip vs := hzt
    rw [q]
    refine ⟨?_, List.Perm.refl _, fun x => rfl⟩
    rw [List.size_toArray] at h2
    have hl : (keys.toList.zip vs).length < 2 := by rw [List.length_zip, Array.length_toList, hks, Nat.min_self]; exact h2
    match keys.toList.zip vs, hl with
    | [], _ => exact List.Pairwise.nil
    | [v], _ => exact List.pairwise_singleton _ _
    | _ :: _ :: l, hl => exact absurd hl (by rw [List.length_cons, List.length_cons]; omega)
  · rw [if_neg h2, if_neg h2]
    rw [List.size_toArray] at h2
    have hkk : keyKind' keys = pure oneType' := by
      have hl : 2 ≤ keys.toList.length := by rw [Array.length_toList]; omega
      have e0 : keys.toList.toArray = keys := by simp
      rw [← e0]
      revert hS hl
      generalize keys.toList = kl
      intro hS hl
      match kl, hl, hS with
      | v1 :: v2 :: rest, _, hS => exact keyKind_strs hS
      | [v], hl, _ => exact absurd hl (by simp)
      | [], hl, _ => exact absurd hl (by simp)
    rw [hkk]
    refine wpAny_bind (wpAny_pure ?_)
    refine wpAny_bind (wpAny_mono (wpS_sortO (P := fun p : Keyed => ∃ x t, p.1 = Value.str x t) (lt := ltS) (st0 := SortSt.mk' oneType' (keys.zip vs.toArray) #[] 7 none)
      (Q := fun _ st' => IsSort (fun p : Keyed => strOf p.1) (arrOf st').toList (keys.toList.zip vs) ∧ failedOf st' = none) swoS cmpS rfl (fun p hp => ?_) rfl rfl fun st' a1 a2 a3 => ⟨?_, a3⟩) ?_ fun _ _ e => e)
    · have hp' : p ∈ keys.toList.zip vs := by
        rw [← hzt]
        exact hp
      exact hS.all _ (List.of_mem_zip hp').1
    · have q : (arrOf (SortSt.mk' oneType' (keys.zip vs.toArray) #[] 7 none)).toList = keys.toList.zip vs := hzt
      rw [q] at a2
      exact isSort_of a1 a2
    · rintro ⟨⟨⟩, st'⟩ s' ⟨rfl, hs, hf⟩
      exact fin st' hs hf
end
end XK

namespace L2
open PySem PySem.Spec PyProof.Rows SrtO XK
/-- calls of f, from below X: on one argument, as sp tells; P0 stands by itself through the calls -/
def KeyOk (X : Cx) (n : Nat) (P0 : List (Addr × Obj)) (f : Value) (sp : V → Hp → VK → Prop) : Prop :=
  ∀ (A : Around) (pins : List (Addr × Obj)) (s : Shared) (σ : St) (H : Hp) (x : V) (u : Value) (Q : VK), Sub X n A → Inv X pins σ H s → (∀ p ∈ P0, p ∈ pins) → RelV x u → sp x H Q →
    wpAny (model X.prog X.w) A (call f [u]) (EP X pins σ Q) (fun _ _ => False) s
section
variable {X : Cx} {pins : List (Addr × Obj)} {σ : St} {H : Hp} {s : Shared}
/-- a def as the key -/
theorem keyOk_fn {k : Nat} {f : Addr} {fd : FuncData} {ps : List Str} {sp : Sp} (F : FnOk X.prog X.w X.K X.mg X.base CX0 k f fd ps sp) (hb : Binds X.K fd ps []) : KeyOk X k [] (.ref f) (fun x H Q => sp [x] H Q E0) := by
  intro A pins s σ H x u Q sb I _ rx h
  have e0 : Env0 X.prog X.w X.K X.mg X.base A X.stack s H := by
    have e := I.env0
    exact ⟨by rw [sb.fr]; exact e.frames, e.mod, e.bs, e.bsz, e.funs, e.frf, e.hok, e.bare⟩
  have hl := F.len _ _ _ _ h
  refine wpAny_call (codeAny_mono (F.run A X.stack s H ⟨[u], []⟩ [u] [x] Q E0 sb.room e0 (by
    have := hb s [u] I.kIn (by simpa using hl)
    simpa using this) (.cons rx .nil) h) fun r s' hq => ?_)
  cases r with
  | error e => exact (show False from hq).elim
  | ok fl =>
    cases fl with
    | ret u => exact I.after hq
    | next => exact False.elim hq
    | brk => exact False.elim hq
    | cont => exact False.elim hq
/-- what is asked: the list of objects as, a text κ for each, and what holds between the calls -/
def rSortBy (K : PySem.W.Frag) (sp : V → Hp → VK → Prop) (l : Addr) (H : Hp) (Q : VK) : Prop := ∃ (as : List Addr) (κ : Addr → Str) (Pv : Nat → Hp → Prop), SqL K H l (as.map V.ref) ∧ Pv 0 H ∧
  (∀ (i : Nat) (a : Addr) (H' : Hp), as[i]? = some a → Pv i H' → sp (.ref a) H' fun v H2 => v = .str (κ a) ∧ Pv (i + 1) H2) ∧
  ∀ (H' : Hp) (ys : List Addr) (p : Addr), Pv as.length H' → IsSort κ ys as → H' p = none → H p = none → Q (.ref p) (upd H' p (.lst (ys.map V.ref)))
theorem vals_refs : ∀ {as : List Addr} {us : List Value}, Vals (as.map V.ref) us → us = as.map Value.ref
  | [], _, .nil => rfl
  | a :: as, _, .cons r t => by
    have e : _ = Value.ref a := r
    rw [e, vals_refs t]
    rfl
theorem refs_vals : ∀ (as : List Addr), Vals (as.map V.ref) (as.map Value.ref)
  | [] => .nil
  | a :: as => .cons rfl (refs_vals as)
theorem strs_snoc {x : Str} {t : Tok} : ∀ {vs : List Value} {ns : List Str}, StrsAre vs ns → StrsAre (vs ++ [.str x t]) (ns ++ [x])
  | _, _, .nil => .cons x t .nil
  | _, _, .cons n t' h => .cons n t' (strs_snoc h)
/-- an object of ours that wasn't tracked is tracked from now on -/
theorem Inv.adopt {a : Addr} {o : HO} (I : Inv X pins σ H s) (f : FpOk X pins H a) (hx : a ∉ X.ex) (new : ObjOk X.prog X.w (upd H a o) s.heap a o) : Inv X pins σ (upd H a o) s := by
  obtain ⟨f0, f1, f2, f3, f4, f5⟩ := f
  have h3 : X.s_0.heap.objs.size ≤ a := f3.resolve_left hx
  have ne0 : ∀ b ob, X.s_0.heap.get? b = some ob → b ≠ a := fun b ob e z => by
    rw [z] at e
    exact Nat.lt_irrefl _ (Nat.lt_of_lt_of_le (Heap.lt_size e) h3)
  have nes : ∀ b u, H b = some u → b ≠ a := fun b u e z => by rw [z, f0] at e; cases e
  have U := I.base
  refine ⟨I.ok, I.os, I.bare, ⟨U.keep, U.slot, fun b ob q n hb => ?_, U.there, fun b xs q => ?_, fun b ob u q => ?_, fun b ps q => ?_⟩, I.loc, I.cell, ?_, fun x c e => ?_, fun p hp => ?_, fun b u e => ?_, I.len⟩
  · rw [upd_ne (ne0 b ob q)]; exact U.free b ob q n hb
  · have z := U.tups b xs q
    rw [upd_ne (nes b _ z)]; exact z
  · have z := U.frzs b ob u q
    rw [upd_ne (nes b _ z)]; exact z
  · obtain ⟨more, z⟩ := U.tbls b ps q
    exact ⟨more, by rw [upd_ne (nes b _ z)]; exact z⟩
  · rw [upd_ne (Ne.symm f1)]; exact I.free
  · rw [upd_ne (f4 x c e)]; exact I.freeC x c e
  · obtain ⟨z1, z2, z3, z4, z5⟩ := I.pin p hp
    refine ⟨z1, ?_, z3, z4, z5⟩
    rw [upd_ne (f5 p hp)]; exact z2
  · by_cases hb : b = a
    · subst hb
      rw [upd_same] at e
      cases e
      exact new
    · rw [upd_ne hb] at e
      exact (I.hok b u e).stay (fun c v _ q => q) (fun c q => by rw [upd_ne (nes c _ q)]; exact q) fun c xs q => by rw [upd_ne (nes c _ q)]; exact q
theorem sortBy_run {n : Nat} {P0 : List (Addr × Obj)} {q l : Addr} {sp : V → Hp → VK → Prop} {Q : VK} {E : Value → Shared → Prop} (hf : KeyOk X n P0 (.ref q) sp) (sb : Sub X (n + 2) X.A) (hex : X.ex = []) (I : Inv X pins σ H s) (hP : ∀ p ∈ P0, p ∈ pins) (h : rSortBy X.K sp l H Q) :
    wpAny (model X.prog X.w) X.A (call (.builtin "sorted") [.ref l] [(Str.ofString "key", .ref q)]) (EP X pins σ Q) E s := by
  obtain ⟨as, κ, Pv, hs, p0, turn, fin⟩ := h
  obtain ⟨its, rv, hl, hz⟩ := I.list hs
  obtain rfl := vals_refs rv
  rw [List.length_map] at hz
  have hzv : (as.map Value.ref).length ≤ sizeLine := by rw [List.length_map]; exact hz
  refine call_function_entry_kw kind_sorted plain_sorted entry_sorted (ksk_s1 _ _) ?_
  unfold Builtin.«sorted»
  refine wpAny_bind (m := checkCount "sorted" 1 1 _) (wpAny_pure ?_)
  refine wpAny_bind (collect_list hl.isList ?_ hzv)
  refine wpAny_bind (wpAny_newList ?_ hzv)
  have hsz : ((s.heap.push (seqObj "list" #[] 0)).update s.heap.objs.size (Obj.mapSeq (· ++ (as.map Value.ref).toArray))).objs.size = s.heap.objs.size + 1 := by
    rw [Heap.size_update, size_push']
  have hoL : (((s.heap.push (seqObj "list" #[] 0)).update s.heap.objs.size (Obj.mapSeq (· ++ (as.map Value.ref).toArray))).push (seqObj "list" (as.map Value.ref).toArray 0)).get? (s.heap.objs.size + 1) = some (seqObj "list" (as.map Value.ref).toArray 0) := by
    rw [← hsz]; exact Heap.get?_push_size _ rfl
  have hs1 : (((s.heap.push (seqObj "list" #[] 0)).update s.heap.objs.size (Obj.mapSeq (· ++ (as.map Value.ref).toArray))).push (seqObj "list" (as.map Value.ref).toArray 0)).objs.size = s.heap.objs.size + 2 := by
    rw [size_push', hsz]
  have keep1 : ∀ b o, s.heap.get? b = some o → (((s.heap.push (seqObj "list" #[] 0)).update s.heap.objs.size (Obj.mapSeq (· ++ (as.map Value.ref).toArray))).push (seqObj "list" (as.map Value.ref).toArray 0)).get? b = some o := fun b o e => by
    have hlt : b < s.heap.objs.size := Heap.lt_size e
    refine Heap.get?_push_of_some _ ?_
    rw [Heap.get?_update_ne _ _ _ _ (Nat.ne_of_lt hlt)]
    exact Heap.get?_push_of_some _ e
  show wpAny _ _ _ _ _ { s with heap := ((s.heap.push (seqObj "list" #[] 0)).update s.heap.objs.size (Obj.mapSeq (· ++ (as.map Value.ref).toArray))).push (seqObj "list" (as.map Value.ref).toArray 0) }
  rw [hsz]
  generalize hh1 : ((s.heap.push (seqObj "list" #[] 0)).update s.heap.objs.size (Obj.mapSeq (· ++ (as.map Value.ref).toArray))).push (seqObj "list" (as.map Value.ref).toArray 0) = h1 at hoL keep1 hs1 ⊢
  refine wpAny_bind (wpAny_holding (wpAny_call_entry_kw slot_list_sort ⟨_, hoL, rfl⟩ entry_list_sort ?_ (ksk_l1 _ _)))
  rw [ksk_t1]
  unfold ksk_tree
  obtain ⟨e1, ho1⟩ : ∃ e1, (h1.update (s.heap.objs.size + 1) (Obj.mapSeq fun _ => (#[] : Array Value))).get? (s.heap.objs.size + 1) = some (seqObj "list" #[] e1) := ⟨_, get?_update_seq hoL fun _ => #[]⟩
  refine wpAny_bind (listItems_at hoL rfl ?_)
  refine wpAny_bind (listUpdate_at hoL rfl ?_ (by rw [List.size_toArray]; exact hzv) (Nat.zero_le _))
  refine wpAny_bind (seqEpoch_at ho1 rfl ?_)
  refine wpAny_bind (wpAny_newTuple ?_ (by show (as.map Value.ref).length ≤ _; exact hzv))
  refine wpAny_bind (wpAny_newList ?_ (Nat.zero_le _))
  refine wpAny_holding ?_
  have hkS : ((h1.update (s.heap.objs.size + 1) (Obj.mapSeq fun _ => (#[] : Array Value))).push { cls := .type "tuple", data := .seq (as.map Value.ref).toArray.toList.toArray }).objs.size = s.heap.objs.size + 3 := by
    rw [size_push', Heap.size_update, hs1]
  have ha2 : (((h1.update (s.heap.objs.size + 1) (Obj.mapSeq fun _ => (#[] : Array Value))).push { cls := .type "tuple", data := .seq (as.map Value.ref).toArray.toList.toArray }).push { cls := .type "list", data := .seq ([] : List Value).toArray }).get? (s.heap.objs.size + 1) = some (seqObj "list" #[] e1) :=
    Heap.get?_push_of_some _ (Heap.get?_push_of_some _ ho1)
  have hk2 : (((h1.update (s.heap.objs.size + 1) (Obj.mapSeq fun _ => (#[] : Array Value))).push { cls := .type "tuple", data := .seq (as.map Value.ref).toArray.toList.toArray }).push { cls := .type "list", data := .seq ([] : List Value).toArray }).get? (s.heap.objs.size + 3) = some (seqObj "list" #[] 0) := by
    rw [← hkS]; exact Heap.get?_push_size _ rfl
  have keep2 : ∀ b o, s.heap.get? b = some o → (((h1.update (s.heap.objs.size + 1) (Obj.mapSeq fun _ => (#[] : Array Value))).push { cls := .type "tuple", data := .seq (as.map Value.ref).toArray.toList.toArray }).push { cls := .type "list", data := .seq ([] : List Value).toArray }).get? b = some o := fun b o e => by
    have hlt : b < s.heap.objs.size := Heap.lt_size e
    refine Heap.get?_push_of_some _ (Heap.get?_push_of_some _ ?_)
    rw [Heap.get?_update_ne _ _ _ _ (Nat.ne_of_lt (Nat.lt_succ_of_lt hlt))]
    exact keep1 b o e
  rw [hkS]
  generalize hh2 : ((h1.update (s.heap.objs.size + 1) (Obj.mapSeq fun _ => (#[] : Array Value))).push { cls := .type "tuple", data := .seq (as.map Value.ref).toArray.toList.toArray }).push { cls := .type "list", data := .seq ([] : List Value).toArray } = h2 at ha2 hk2 keep2 ⊢
  have I2 : Inv X pins σ H { s with heap := h2 } := I.kept (t' := s.toks) keep2
  have fpA : ∀ {H' : Hp}, H' (s.heap.objs.size + 1) = none → FpOk X pins H' (s.heap.objs.size + 1) := fun hn => I.fpOk (Nat.le_succ _) hn
  have fpK : ∀ {H' : Hp}, H' (s.heap.objs.size + 3) = none → FpOk X pins H' (s.heap.objs.size + 3) := fun hn => I.fpOk (Nat.le_add_right _ 3) hn
  have sb2 : Sub X n X.A.in1.in1 := Sub.in1 (Sub.in1 sb)
  generalize hA1 : s.heap.objs.size + 1 = a1 at ha2 fpA ⊢
  generalize hK1 : s.heap.objs.size + 3 = kS at hk2 fpK ⊢
  have hka : kS ≠ a1 := by
    rw [← hA1, ← hK1]
    exact fun z => by
      have z' : s.heap.objs.size + 3 = s.heap.objs.size + 1 := z
      omega
  unfold ksk_rest
  refine wpAny_bind (wpAny_rule ?_)
  have toL : (as.map Value.ref).toArray = (as.map Value.ref).toArray := rfl
  first
    | rw [List.forIn_toArray]
    | (rw [← Array.forIn_toList]; simp only [List.toList_toArray])
    | rw [← Array.forIn_toList]
  refine wpAny_bind (ksk_fold (fun i s' => ∃ H' kA e, Inv X pins σ H' s' ∧ s'.heap.get? kS = some (seqObj "list" kA e) ∧ s'.heap.get? a1 = some (seqObj "list" #[] e1) ∧ H' kS = none ∧ H' a1 = none ∧ StrsAre kA.toList ((as.map κ).take i) ∧ Pv i H') (as.map Value.ref) 0 _
    ⟨H, #[], 0, I2, hk2, ha2, by rw [← hK1]; exact I.hok.fresh (Nat.le_add_right _ 3), by rw [← hA1]; exact I.hok.fresh (Nat.le_succ _), by simpa using StrsAre.nil, p0⟩ ?step ?done)
  case step =>
    rintro j x s' hx ⟨H', kA, e, I', gk, ga, nk, na, hS, pv⟩
    simp only [Nat.zero_add] at hS pv ⊢
    obtain ⟨a, haj, rfl⟩ : ∃ a, as[j]? = some a ∧ Value.ref a = x := by
      rw [List.getElem?_map] at hx
      cases hq : as[j]? with
      | none => rw [hq] at hx; cases hx
      | some a => rw [hq] at hx; exact ⟨a, rfl, Option.some.inj hx⟩
    have hj : j < as.length := (List.getElem?_eq_some_iff.mp haj).1
    have I3 : Inv X (pins ++ pinsAt [kS, a1] s'.heap) σ H' s' := I'.pinned (fun b hb => by
      rcases List.mem_cons.mp hb with z | z
      · rw [z]; exact fpK nk
      · rw [List.mem_singleton.mp z]; exact fpA na) fun b hb => by
      rcases List.mem_cons.mp hb with z | z
      · rw [z]; exact ⟨_, gk, fun v z => by cases z⟩
      · rw [List.mem_singleton.mp z]; exact ⟨_, ga, fun v z => by cases z⟩
    refine wpAny_bind (wpAny_attempt (wpAny_mono (hf X.A.in1.in1 _ s' σ H' (.ref a) (.ref a) _ sb2 I3 (fun p hp => List.mem_append_left _ (hP p hp)) rfl (turn j a H' haj pv)) (fun v s'' he => ?_) fun _ _ hF => hF.elim))
    obtain ⟨w', H2, I4, rw', ew, pv2⟩ := he
    subst ew
    obtain ⟨tk, rfl⟩ := rw'
    have pk := I4.pin (kS, seqObj "list" kA e) (List.mem_append_right _ (List.mem_append_right _ (mem_pinsAt (by simp) gk)))
    have pa := I4.pin (a1, seqObj "list" #[] e1) (List.mem_append_right _ (List.mem_append_right _ (mem_pinsAt (by simp) ga)))
    have hzk : kA.size ≤ as.length := by
      have z := hS.len_eq
      rw [Array.length_toList, List.length_take, List.length_map] at z
      omega
    have s1 := Heap.SameBut.update s''.heap kS (Obj.mapSeq (·.push (.str (κ a) tk)))
    obtain ⟨c2, hc2⟩ : ∃ c2, (s''.heap.update kS (Obj.mapSeq (·.push (.str (κ a) tk)))).get? kS = some (seqObj "list" (kA.push (.str (κ a) tk)) c2) := ⟨_, get?_update_seq pk.1 (·.push (.str (κ a) tk))⟩
    obtain ⟨f0, f1, f2, f3, f4, f5⟩ := fpK pk.2.1
    have I5 : Inv X pins σ H2 { s'' with heap := s''.heap.update kS (Obj.mapSeq (·.push (.str (κ a) tk))) } := (I4.unpinned).turned (t' := s''.toks) (fun b o hb e => (s1.2 b hb).trans e) f0 f1 f3 f4 f5
    try dsimp only
    refine wpAny_bind (listUpdate_at pk.1 rfl ?_ (by omega) (Nat.le_trans (Nat.le_of_eq (Array.size_push ..)) (by omega)))
    refine wpAny_pure ⟨rfl, H2, kA.push (.str (κ a) tk), c2, I5, hc2, (s1.2 a1 hka.symm).trans pa.1, pk.2.1, pa.2.1, ?_, pv2⟩
    have ek : (as.map κ).take (j + 1) = (as.map κ).take j ++ [κ a] := by
      rw [List.take_add_one, List.getElem?_map, haj] <;> rfl
    have ea : (kA.push (Value.str (κ a) tk)).toList = kA.toList ++ [Value.str (κ a) tk] := by simp
    rw [ek, ea]
    exact strs_snoc hS
  case done =>
    rintro s' ⟨H', kA, e, I', gk, ga, nk, na, hS, pv⟩
    have e3 : (as.map κ).take (0 + (as.map Value.ref).length) = as.map κ := List.take_of_length_le (by simp)
    rw [e3] at hS
    have e4 : 0 + (as.map Value.ref).length = as.length := by simp
    rw [e4] at pv
    try dsimp only
    refine wpAny_bind (listItems_at gk rfl ?_)
    refine endS gk ga hka hzv hS (by simp) fun h' c arr hso g1 g2 => ⟨_, rfl, ?_⟩
    -- the pairs, read back
    have hmem : ∀ p ∈ arr, ∃ a, p.2 = Value.ref a ∧ strOf p.1 = κ a := fun p hp => by
      have hm := hso.perm.mem_iff.mp hp
      obtain ⟨i, hi⟩ := List.mem_iff_getElem?.mp hm
      rw [List.getElem?_zip_eq_some] at hi
      obtain ⟨h1', h2'⟩ := hi
      rw [List.getElem?_map] at h2'
      cases hq : as[i]? with
      | none => rw [hq] at h2'; cases h2'
      | some a =>
        rw [hq] at h2'
        refine ⟨a, (Option.some.inj h2').symm, ?_⟩
        have es := hS.strs
        have q2 : (kA.toList.map strOf)[i]? = some (κ a) := by rw [es, List.getElem?_map, hq] <;> rfl
        rw [List.getElem?_map, h1'] at q2
        exact Option.some.inj q2
    have hz2 : (kA.toList.zip (as.map Value.ref)).map (fun p : Keyed => bkA p.2) = as := by
      have q : (kA.toList.zip (as.map Value.ref)).map (fun p : Keyed => bkA p.2) = ((kA.toList.zip (as.map Value.ref)).map Prod.snd).map bkA := by rw [List.map_map] <;> rfl
      have hl2 := hS.len_eq
      rw [q, List.map_snd_zip (by rw [hl2]; simp), List.map_map]
      have e5 : (bkA ∘ Value.ref) = (id : Addr → Addr) := rfl
      rw [e5, List.map_id]
    have hys : IsSort κ (arr.map fun p : Keyed => bkA p.2) as := by
      have q := hso.map (k' := κ) (fun p : Keyed => bkA p.2) fun p hp => by
        obtain ⟨a, e5, e6⟩ := hmem p (hso.perm.mem_iff.mpr hp)
        show κ (bkA p.2) = strOf p.1
        rw [e5, e6] <;> rfl
      rw [hz2] at q
      exact q
    have eout : arr.map (·.2) = (arr.map fun p : Keyed => bkA p.2).map Value.ref := by
      rw [List.map_map]
      refine List.map_congr_left fun p hp => ?_
      obtain ⟨a, e5, _⟩ := hmem p hp
      show p.2 = Value.ref (bkA p.2)
      rw [e5] <;> rfl
    have hlen : ((arr.map fun p : Keyed => bkA p.2).map V.ref).length ≤ sizeLine := by
      rw [List.length_map, hys.perm.length_eq]; exact hz
    have fk := fpK nk
    have fa := fpA na
    have I6 : Inv X pins σ H' { s' with heap := h' } := I'.turnedL (t' := s'.toks) (ch := [kS, a1]) (fun b o hb e => g2 b o (fun z => hb (by simp [z])) (fun z => hb (by simp [z])) e) fun b hb => by
      rcases List.mem_cons.mp hb with z | z
      · rw [z]; exact fk
      · rw [List.mem_singleton.mp z]; exact fa
    rw [eout] at g1
    refine wpAny_pure ⟨_, rfl, V.ref a1, _, I6.adopt (o := .lst ((arr.map fun p : Keyed => bkA p.2).map V.ref)) fa (by rw [hex]; simp) (show ObjOk X.prog X.w _ _ _ (.lst _) from ⟨hlen, _, c, refs_vals _, g1⟩), rfl, fin H' _ a1 pv hys na ?_⟩
    rw [← hA1]
    exact I.hok.fresh (Nat.le_succ _)
end
end L2

set_option Elab.async false
set_option linter.all false
set_option maxRecDepth 100000
set_option maxHeartbeats 2000000
/-! a lambda without captured names as a value; as the key of sorted -/
namespace XL
open PySem PySem.Spec PyProof.Rows L2 LamX
/-- the lambda's function object at f, its code object at c' -/
def FunO (f : Addr) (q : Str) (params : Arguments) (body : Expr) (scope : Scope) (c' : Addr) : HO := .ext fun h => ∃ pm ctv : Value, h.get? f = some (PySem.W.kla_obj "<lambda>" q params body scope [] pm c' ctv)
theorem clo_nil (cells : List (Str × Addr)) : ∀ (names : List (Str × NameKind)) , (∀ y ∈ names, y.2 ≠ .free) → cloFrom cells names [] = [] := by
  intro names
  induction names with
  | nil => intro _; rfl
  | cons y r ih =>
    intro h
    obtain ⟨n, k⟩ := y
    have hk : k ≠ .free := h (n, k) List.mem_cons_self
    unfold cloFrom
    cases k <;> first | exact ih (fun z hz => h z (List.mem_cons_of_mem _ hz)) | exact absurd rfl hk
section
variable {X : Cx} {pins : List (Addr × Obj)} {σ : L2.St} {H : Hp} {s : Shared}
/-- lambda ..: body, told as a tracked object -/
def tLamV (T : List (Addr × Str)) (q : Str) (params : Arguments) (body : Expr) (scope : Scope) : TE := fun σ H Q => Tabs T H ∧ ∀ (H1 : Hp) (f c' : Addr), ExtN H H1 → Tabs T H1 → H1 f = none → H f = none → H1 c' = some (CodeO c' q) → Q (.ref f) (upd H1 f (FunO f q params body scope c'))
theorem pe_lamV {T : List (Addr × Str)} {c P : Addr} {params : Arguments} {body : Expr} {scope : Scope} {pos : Pos} (TB : TabB X.base X.mg c P) (hcode : X.env.code = .ref c) (hex : X.ex = [])
    (hm : (P, X.env.qual ++ "<lambda>") ∈ T) (hu : ∀ p ∈ T, p.1 = P → p.2 = X.env.qual ++ "<lambda>") (hdef : defaultsOf params X.env = ([], [])) (hfree : ∀ y ∈ scope.names, y.2 ≠ .free) :
    PE X (.Lambda params body scope pos) (tLamV T (X.env.qual ++ "<lambda>") params body scope) := by
  refine ⟨fun pins s σ H Q I h => ?_⟩
  obtain ⟨hT, h⟩ := h
  obtain ⟨ps, hP, ht, ha⟩ := hT _ hm
  have hfree' : ∀ y ∈ scope.names, y.2 = .free → ∃ c, X.env.cells.lookup y.1 = some c := fun y hy e => absurd e (hfree y hy)
  refine PySem.W.kla_eval hdef ?_
  have bP : s.heap.BuiltinsAt X.mg P := TB.bm.keeps I.bk
  have hP' : s.heap.get? P = some { cls := .none, data := .fields ps } := I.hok P _ hP
  have done : ∀ (f c' : Addr) (pm ctv : Value) (H1 : Hp) (s' : Shared), Inv X pins σ H1 s' → ExtN H H1 → Tabs T H1 → s'.heap.get? f = some (PySem.W.kla_obj "<lambda>" (X.env.qual ++ "<lambda>") params body scope (cloFrom X.env.cells scope.names []) pm c' ctv) →
      s.heap.objs.size ≤ f → H1 f = none → H1 c' = some (CodeO c' (X.env.qual ++ "<lambda>")) → EP X pins σ Q (.ref f) s' := fun f c' pm ctv H1 s' I1 e1 e2 e3 e4 e5 e6 => by
    rw [clo_nil _ _ hfree] at e3
    refine ⟨.ref f, _, I1.adopt (o := FunO f (X.env.qual ++ "<lambda>") params body scope c') (I.fpOk e4 e5) (by rw [hex]; simp) ⟨⟨pm, ctv, e3⟩, ⟨_, e3⟩, fun h1 h2 ⟨pm, ctv, z⟩ st => ⟨pm, ctv, st _ z⟩⟩, rfl, h H1 f c' e1 e2 e5 (I.hok.fresh e4) e6⟩
  cases hc : codeAmong pos ps.toList with
  | none =>
    refine PySem.W.kla_makeFunction (mg := X.mg) (c := c) (P := P) (ps := ps) (closure_ok hfree') I.ok.glob (I.mod.glob.keeps I.bk) hcode (TB.code.keeps I.bk) hP' ht hc TB.gP bP fun c' ctv h' tk hx hge hlt hrec htb => ?_
    obtain ⟨c2, oc, vs, t, e2, hoc, hd, hv⟩ := hrec
    cases e2
    have hsz : s.heap.objs.size ≤ h'.objs.size := Nat.le_trans hge (Nat.le_of_lt hlt)
    have nC : H c' = none := I.hok.fresh hge
    have I1 := inv_table (t' := tk) (more := #[rawInt pos.line, rawInt pos.col, .ref c']) (h' := h'.push (PySem.W.kla_obj "<lambda>" (X.env.qual ++ "<lambda>") params body scope (cloFrom X.env.cells scope.names []) ((X.mg "__name__").getD .none) c' ctv)) I hP
      (fun b o hb e => Heap.get?_push_of_some _ (hx b o hb e)) (Heap.get?_push_of_some _ htb) hge ⟨oc, vs, t, Heap.get?_push_of_some _ hoc, hd, hv⟩
    have hE : ExtN H (upd (upd H P (.tbl (ps ++ #[rawInt pos.line, rawInt pos.col, .ref c']))) c' (CodeO c' (X.env.qual ++ "<lambda>"))) := fun b o e n => by
      rw [upd_ne (ne_of_none e nC), upd_ne (fun z => n ps (Option.some.inj (e.symm.trans (by rw [z]; exact hP))))]
      exact e
    have eL : (ps ++ #[rawInt pos.line, rawInt pos.col, .ref c']).toList = ps.toList ++ [rawInt pos.line, rawInt pos.col, .ref c'] := by simp
    refine done h'.objs.size c' ((X.mg "__name__").getD .none) ctv _ _ I1 hE (fun p hp => ?_) (Heap.get?_push_size _ rfl) hsz ?_ upd_same
    · by_cases hb : p.1 = P
      · rw [hu p hp hb, hb]
        refine ⟨_, by rw [upd_ne (ne_of_none hP nC), upd_same], by rw [eL]; exact PySem.TriplesOk_snoc _ _ _ _ ht, fun p' cv hcv => ?_⟩
        rw [eL] at hcv
        rcases among_app _ ht hcv with z | z
        · obtain ⟨c0, e1, e2⟩ := ha p' cv z
          exact ⟨c0, e1, hE _ _ e2 codeO_ne⟩
        · exact ⟨c', z, upd_same⟩
      · obtain ⟨ps', a1, a2, a3⟩ := hT p hp
        refine ⟨ps', by rw [upd_ne (ne_of_none a1 nC), upd_ne hb]; exact a1, a2, fun p' cv hcv => ?_⟩
        obtain ⟨c0, e1, e2⟩ := a3 p' cv hcv
        exact ⟨c0, e1, hE _ _ e2 codeO_ne⟩
    · have n1 : h'.objs.size ≠ c' := Nat.ne_of_gt hlt
      have n2 : h'.objs.size ≠ P := Nat.ne_of_gt (Nat.lt_of_lt_of_le (Heap.lt_size hP') hsz)
      rw [upd_ne n1, upd_ne n2]
      exact I.hok.fresh hsz
  | some cv =>
    obtain ⟨c', e, hco⟩ := ha pos cv hc
    subst e
    refine PySem.W.kla_makeFunctionHit (mg := X.mg) (c := c) (P := P) (ps := ps) (closure_ok hfree') I.ok.glob (I.mod.glob.keeps I.bk) hcode (TB.code.keeps I.bk) hP' ht hc bP fun ctv h' tk hx hsz => ?_
    have I1 : Inv X pins σ H { s with heap := h'.push (PySem.W.kla_obj "<lambda>" (X.env.qual ++ "<lambda>") params body scope (cloFrom X.env.cells scope.names []) ((X.mg "__name__").getD .none) c' ctv), toks := tk } := I.kept fun b o e => Heap.get?_push_of_some _ (hx b o e)
    exact done h'.objs.size c' ((X.mg "__name__").getD .none) ctv H _ I1 (ExtN.refl H) hT (Heap.get?_push_size _ rfl) hsz (I.hok.fresh hsz) hco
/-- such a lambda of one parameter, as a key -/
theorem keyOk_lam {k : Nat} {q a : Str} {params : Arguments} {body : Expr} {scope : Scope} {N : List Str} {sp : V → Hp → VK → Prop} (S : FnScope N [a] scope)
    (hbind : ∀ (pm cv ctv u : Value), bindArgs (PySem.W.kla_fn "<lambda>" q params body scope [] pm cv ctv) ⟨[u], []⟩ = pure [(a, u)])
    (hbody : ∀ (f c' : Addr) (A : Around) (outer : List Env) (s : Shared) (H : Hp) (x : V) (Q : VK), Room k (A.deeper (envOfC q scope s.heap.objs.size f (.ref c'))) → sp x H Q →
      ∃ t, PE (cxOf CX0 X.prog X.w X.K X.mg X.base N q scope f (.ref c') A outer s H E0).nox body t ∧ t (L2.start N [x]) H Q) (f : Addr) :
    KeyOk X (k + 1) [] (.ref f) (fun x H Q => ∃ c', H f = some (FunO f q params body scope c') ∧ H c' = some (CodeO c' q) ∧ sp x H Q) := by
  intro A pins s σ H x u Q sb I _ rx h
  obtain ⟨c', hf, hc, hsp⟩ := h
  obtain ⟨⟨pm, ctv, hob⟩, _, _⟩ := I.hok f _ hf
  obtain ⟨⟨oc, vs, t, hoc, hdc, hvc⟩, _, _⟩ := I.hok c' _ hc
  have e0 : Env0 X.prog X.w X.K X.mg X.base A X.stack s H := by
    have e := I.env0
    exact ⟨by rw [sb.fr]; exact e.frames, e.mod, e.bs, e.bsz, e.funs, e.frf, e.hok, e.bare⟩
  have lim : s.heap.NoLimit := I.nolimit
  have hkind : ∀ y ∈ [(a, u)], scope.names.lookup y.1 = some .local ∨ (scope.names.lookup y.1 = some .cell ∧ ((cellsFrom (s.heap.objs.size + 1) scope.names []).lookup y.1).isSome = true) := fun y hy => by
    rw [List.mem_singleton.mp hy]
    rcases S.par a (by simp) with z | z
    · exact .inl z
    · exact .inr ⟨z, PySem.W.cellsFrom_some _ _ _ (.inl z)⟩
  have rc : codeAny (model X.prog X.w) A (.call (.ref f) ⟨[u], []⟩) (CR CX0 X.stack X.prog X.w H s Q E0) s := by
    refine PySem.W.kla_callFunE sb.room.depth hob rfl S.co S.gen rfl ⟨c', oc, vs, t, rfl, hoc, hdc, hvc⟩ ?_
    rw [hbind]
    refine wpAny_pure ?_
    refine wpAny_newFunctionEnv_cells S.kind hkind fun env he s1 xx => ?_
    subst he
    refine ⟨lim.keeps xx.toInCall.keep, ?_⟩
    obtain ⟨t, ht, hq⟩ := hbody f c' A X.stack s H x Q (sb.room.deeper _) hsp
    have J : Inv (cxOf CX0 X.prog X.w X.K X.mg X.base N q scope f (.ref c') A X.stack s H E0) [] (L2.start N [x]) H s1 := inv_start S sb.room.hd e0 rfl (.cons rx .nil) xx
    refine PySem.W.kla_codeExpr (wpAny_mono (ht.nox.run [] s1 (L2.start N [x]) H Q J hq) (fun v s' hs => ?_) fun e s' hs => hs)
    obtain ⟨w', H', J', rv, q⟩ := hs
    exact ⟨w', H', J'.os, J'.bare, J'.base, J'.hok, rv, q⟩
  refine wpAny_call (codeAny_mono rc fun r s' hq => ?_)
  cases r with
  | error e => exact (show False from hq).elim
  | ok fl =>
    cases fl with
    | ret u => exact I.after hq
    | next => exact False.elim hq
    | brk => exact False.elim hq
    | cont => exact False.elim hq
end
end XL
namespace L2
open PySem PySem.Spec PyProof.Rows XK
section
variable {X : Cx}
/-- sorted(xs, key=f): f in S with its promise -/
def rSortKey (K : PySem.W.Frag) (S : Addr → V → Hp → VK → Prop) : List V → List V → Hp → VK → Prop := fun vs zs H Q => ∃ l f, vs = [V.ref l] ∧ zs = [V.ref f] ∧ rSortBy K (S f) l H Q
theorem cr_sortKey {n : Nat} {S : Addr → V → Hp → VK → Prop} (hf : ∀ f, KeyOk X n [] (.ref f) (S f)) (hr : Room (n + 2) X.A) (hex : X.ex = []) : CallRK X (.builtin "sorted") [Str.ofString "key"] (rSortKey X.K S) := by
  intro pins s σ H vs zs us ws Q I r rz h
  obtain ⟨l, f, rfl, rfl, h⟩ := h
  rw [Vals.ref1 r]
  obtain ⟨w1, rfl, e1⟩ := vals1 rz
  obtain rfl : w1 = Value.ref f := e1
  exact sortBy_run (hf f) ⟨hr, rfl⟩ hex I (fun p hp => absurd hp (by simp)) h
/-- a def as the key -/
def SDef (f0 : Addr) (sp : Sp) : Addr → V → Hp → VK → Prop := fun f x H Q => f = f0 ∧ sp [x] H Q E0
theorem keyOk_def {k : Nat} {f0 : Addr} {fd : FuncData} {ps : List Str} {sp : Sp} (F : FnOk X.prog X.w X.K X.mg X.base CX0 k f0 fd ps sp) (hb : Binds X.K fd ps []) (f : Addr) : KeyOk X k [] (.ref f) (SDef f0 sp f) := by
  intro A pins s σ H x u Q sb I hp rx h
  obtain ⟨rfl, h⟩ := h
  exact keyOk_fn F hb A pins s σ H x u Q sb I hp rx h
end
end L2

set_option Elab.async false
set_option linter.all false
set_option maxRecDepth 100000
set_option maxHeartbeats 2000000
namespace K02
open PySem PySem.Spec PyProof.Rows L2
/-! ### the text -/
def top (i : Nat) : Stmt := PySem.Challenge.pw_treesays_k02_all_shapes_of_a_size.main.body.getD i (.Pass ⟨0, 0, 0, 0⟩)
theorem same_new {H : Hp} {p : Addr} {o : HO} (h : H p = none) : Same H (upd H p o) := fun b u q => by rw [upd_ne (ne_of_none q h)]; exact q
theorem same_fresh {H H1 : Hp} {D : Addr} {o : HO} (hD : H D = none) (g : Same H H1) : Same H (upd H1 D o) := fun b u q => by rw [upd_ne (ne_of_none q hD)]; exact g b u q
theorem yes_turn {σ : L2.St} {H : Hp} {A B : Hp → Prop} (h : A H) : tYes σ H fun b H3 => if b = true then A H3 else B H3 := by
  show if true = true then A H else B H
  rw [if_pos rfl]
  exact h
theorem small {n : Nat} (h : n ≤ 1000) : n ≤ sizeLine := Nat.le_of_lt (small1000 h)
/-! ### the tape -/
abbrev sTape : Stmt := top 19
abbrev sTake : Stmt := top 20
theorem scTape : FnScope ["script", "cell", "cells", "seed"] ["script"] (defScope sTape) := ⟨rfl, rfl, rfl, by decide +kernel, rfl, by decide +kernel, by decide +kernel⟩
theorem scTake : FnScope ["tape", "many", "drawn", "mixed"] ["tape", "many"] (defScope sTake) := ⟨rfl, rfl, rfl, by decide +kernel, rfl, by decide +kernel, by decide +kernel⟩
/-- a tape at t: whatever it holds, it may be drawn from -/
structure TapeAt (H : Hp) (t : Addr) (kvs : List (Key × V)) (c : Addr) : Prop where
  dict : H t = some (.dK kvs)
  len : kvs.length ≤ 5
  cells : valV kvs (Sum.inr "cells") = some (.ref c)
  list : ∃ ns : List Int, H c = some (.lst (ns.map V.int)) ∧ ns.length ≤ 1000
  «at» : ∃ z : Int, valV kvs (Sum.inr "at") = some (.int z) ∧ 0 ≤ z
  left : ∃ z : Int, valV kvs (Sum.inr "left") = some (.int z)
  seed : ∃ z : Int, valV kvs (Sum.inr "seed") = some (.int z)
  salt : ∃ z : Int, valV kvs (Sum.inr "salt") = some (.int z)
def TapeOk (H : Hp) (t : Addr) : Prop := ∃ kvs c, TapeAt H t kvs c
def spTape (K : PySem.W.Frag) : Sp := fun vs H Q _ => ∃ (a : Addr) (ns : List Int), vs = [.ref a] ∧ SqL K H a (ns.map V.int) ∧ ns.length ≤ 63 ∧ ∀ H' t, Same H H' → H t = none → TapeOk H' t → Q (.ref t) H'
section
variable {P : Program} {w : World} {K : PySem.W.Frag} {mg : Str → Option Value} {base : Heap}
theorem ok_tape {f : Addr} {fd : FuncData} {k : Nat} (F : Fun K "_law_tape" "_law_tape" sTape f fd) (ma : mg "abs" = none) (mi : mg "int" = none) : FnOk P w K mg base CX0 (k + 1) f fd ["script"] (spTape K) := by
  refine F.ok scTape (fun vs H Q E h => ?_) (fun cdv A outer s H vs Q E hr h => ?_)
  · obtain ⟨a, ns, rfl, _⟩ := h
    rfl
  obtain ⟨a, ns, rfl, hS, hlen, q⟩ := h
  have hu := hu_of hr
  refine ⟨_, pss_cons (ps_setLc (i := 2) (own := [("cell", 1)]) (g := gName 1) (tt := tYes) rfl scTape.nd rfl rfl (sw_true rfl rfl rfl (by decide +kernel)) (pi_list (pv 0))
      (blkOk_by (own := [("cell", 1)]) (N := ["script", "cell", "cells", "seed"]) (sc := defScope sTape) (by decide +kernel)) (fun _ _ _ _ _ => pg_name (i := 1) scTape.nd rfl (Or.inl rfl)) (fun _ _ _ _ _ => pts_nil)
      (fun _ _ _ _ _ => pe_callB call_abs (by rfl) ma (by decide +kernel) (pa_cons (pe_callTy call_int1 (by rfl) mi (by decide +kernel) (pa_cons (pv 1) pa_nil)) pa_nil)))
    (pss_cons (ps_set (i := 3) scTape.nd rfl (Or.inl rfl) pe_int)
    (pss_cons (ps_for PassesOwn.never rfl (pi_list (pv 2)) (pg_name (i := 1) scTape.nd rfl (Or.inl rfl))
      (pss_one (ps_set (i := 3) scTape.nd rfl (Or.inl rfl) (pe_op op_modN (pe_callTy call_int1 (by rfl) mi (by decide +kernel) (pa_cons (pe_op op_add (pe_op op_mul (pv 3) pe_int) (pv 1)) pa_nil)) pe_int))))
    (pss_one (ps_ret (pe_disp (pps_cons pe_str (pv 2) (pps_cons pe_str pe_int (pps_cons pe_str pe_int (pps_cons pe_str (pv 3) (pps_cons pe_str pe_int pps_nil))))) (by rfl) (by rfl) (fun z => by cases z) (by decide)))))), ?_⟩
  refine ⟨.ref a, rfl, a, rfl, ⟨_, hS⟩, fun D hD => ?_⟩
  have g0 : Same H (upd H D (.lst [])) := same_new hD
  refine lc_list (K := K) (a := a) (xs := ns.map V.int) (fun i H1 => ∃ ms : List Int, ms.length = i ∧ Same H H1 ∧ H1 D = some (.lst (ms.map V.int))) ⟨[], rfl, g0, upd_same⟩ (fun i H1 hi p => ?_) (fun i x H1 hx p => ?_) fun H1 p => ?_
  · obtain ⟨ms, e, g, e2⟩ := p
    exact g.seq hS
  · obtain ⟨ms, e, g, e2⟩ := p
    have hi := (List.getElem?_eq_some_iff.mp hx).1
    rw [List.length_map] at hi
    obtain ⟨z, rfl⟩ : ∃ z, x = V.int z := by
      rw [List.getElem?_map] at hx
      cases hq : ns[i]? with
      | none => rw [hq] at hx; cases hx
      | some z => rw [hq] at hx; exact ⟨z, (Option.some.inj hx).symm⟩
    refine ⟨rfl, yes_turn ?_⟩
    refine ⟨V.int z, rfl, .inl ⟨z, rfl, z, rfl, _, e2, by rw [List.length_map]; exact Nat.lt_of_le_of_lt (show ms.length ≤ 63 by omega) (small1000 (by omega)), ms ++ [if z < 0 then -z else z], by rw [List.length_append, e] <;> rfl, same_fresh hD g, ?_⟩⟩
    rw [upd_same, List.map_append] <;> rfl
  · obtain ⟨ms, e, g, e2⟩ := p
    rw [List.length_map] at e
    refine ⟨.ref D, rfl, D, rfl, ⟨_, SqL.of e2⟩, ?_⟩
    refine for_list (xs := ms.map V.int) (fun i σ H2 => ∃ (y : Option V) (z : Int), σ = [some (.ref a), y, some (.ref D), some (.int z)] ∧ H2 = H1) ⟨none, 7, rfl, rfl⟩ (fun i σ H2 hi p => ?_) (fun i x σ H2 hx p => ?_) fun σ H2 p => ?_
    · obtain ⟨y, z, rfl, rfl⟩ := p
      exact SqL.of e2
    · obtain ⟨y, z, rfl, rfl⟩ := p
      obtain ⟨z2, rfl⟩ : ∃ z, x = V.int z := by
        rw [List.getElem?_map] at hx
        cases hq : ms[i]? with
        | none => rw [hq] at hx; cases hx
        | some z => rw [hq] at hx; exact ⟨z, (Option.some.inj hx).symm⟩
      refine ⟨V.int z, rfl, _, _, rfl, rfl, .inr ⟨by decide, by decide⟩, V.int z2, rfl, _, _, rfl, rfl, .inl ⟨_, rfl, _, _, rfl, rfl, (by show (2147483647 : Int) ≠ 0; decide), _, _, rfl, rfl⟩⟩
    · obtain ⟨y, z, rfl, rfl⟩ := p
      refine fun t ht => ?_
      have ht0 : H t = none := g.free ht
      have hDt : D ≠ t := ne_of_none e2 ht
      refine ⟨.ref D, rfl, .int z, rfl, upd_same, [(Sum.inr "cells", .ref D), (Sum.inr "at", .int 0), (Sum.inr "left", .int 0), (Sum.inr "seed", .int z), (Sum.inr "salt", .int 0)], rfl, (by show 5 ≤ 15; decide), ?_⟩
      refine q _ t (same_fresh ht0 (same_fresh ht0 g)) ht0 ⟨_, D, upd_same, (by show 5 ≤ 5; decide), rfl, ⟨ms, by rw [upd_ne hDt, upd_ne hDt]; exact e2, by omega⟩, ⟨0, rfl, Int.le_refl 0⟩, ⟨0, rfl⟩, ⟨z, rfl⟩, ⟨0, rfl⟩⟩
end
end K02

set_option Elab.async false
set_option linter.all false
set_option maxRecDepth 100000
set_option maxHeartbeats 2000000
namespace K02
open PySem PySem.Spec PyProof.Rows L2
/-- all but t stays -/
def But (t : Addr) (H H' : Hp) : Prop := ∀ b o, b ≠ t → H b = some o → H' b = some o
theorem But.refl (t : Addr) (H : Hp) : But t H H := fun _ _ _ h => h
theorem But.upd {t : Addr} {H H1 : Hp} {o : HO} (g : But t H H1) : But t H (upd H1 t o) := fun b u hb q => by rw [upd_ne hb]; exact g b u hb q
theorem But.trans {t : Addr} {H H1 H2 : Hp} (g : But t H H1) (g' : But t H1 H2) : But t H H2 := fun b u hb q => g' b u hb (g b u hb q)
theorem But.of {t : Addr} {H H1 : Hp} (g : Same H H1) : But t H H1 := fun b u _ q => g b u q
theorem TapeAt.put {H : Hp} {t c : Addr} {kvs : List (Key × V)} (T : TapeAt H t kvs c) (x : Str) (z : Int) (hx : x = "at" ∨ x = "left" ∨ x = "seed" ∨ x = "salt") (h0 : x = "at" → 0 ≤ z) : TapeAt (upd H t (.dK (putK kvs (Sum.inr x) (.int z)))) t (putK kvs (Sum.inr x) (.int z)) c := by
  have hct : c ≠ t := by
    obtain ⟨ns, e, _⟩ := T.list
    intro z
    rw [z, T.dict] at e
    cases e
  have hin : (valV kvs (Sum.inr x : Key)).isSome = true := by
    rcases hx with e | e | e | e
    · obtain ⟨z, e1, _⟩ := T.at; rw [e, e1]; rfl
    · obtain ⟨z, e1⟩ := T.left; rw [e, e1]; rfl
    · obtain ⟨z, e1⟩ := T.seed; rw [e, e1]; rfl
    · obtain ⟨z, e1⟩ := T.salt; rw [e, e1]; rfl
  have hl : (putK kvs (Sum.inr x : Key) (.int z)).length = kvs.length := by
    unfold putK
    rw [valV_any, hin, if_pos rfl, List.length_map]
  have oth : ∀ y : Str, ∀ v, valV kvs (Sum.inr y : Key) = some v → y ≠ x → valV (putK kvs (Sum.inr x : Key) (.int z)) (Sum.inr y : Key) = some v := fun y v e hy => by
    rw [valV_put, if_neg (fun q => hy (Sum.inr.inj q))]
    exact e
  have int : ∀ y : Str, (∃ v : Int, valV kvs (Sum.inr y : Key) = some (.int v)) → ∃ v : Int, valV (putK kvs (Sum.inr x : Key) (.int z)) (Sum.inr y : Key) = some (.int v) := fun y ⟨v, e⟩ => by
    by_cases hy : y = x
    · exact ⟨z, by rw [valV_put, if_pos (by rw [hy])]⟩
    · exact ⟨v, oth y _ e hy⟩
  refine ⟨upd_same, by rw [hl]; exact T.len, oth _ _ T.cells ?_, ?_, ?_, int _ T.left, int _ T.seed, int _ T.salt⟩
  · rcases hx with e | e | e | e <;> rw [e] <;> decide
  · obtain ⟨ns, e, hn⟩ := T.list
    exact ⟨ns, by rw [upd_ne hct]; exact e, hn⟩
  · obtain ⟨v, e, hv⟩ := T.at
    by_cases hy : x = "at"
    · exact ⟨z, by rw [valV_put, if_pos (by rw [hy])], h0 hy⟩
    · exact ⟨v, oth _ _ e (fun q => hy q.symm), hv⟩
def spTake : Sp := fun vs H Q _ => ∃ (t : Addr) (m : Int), vs = [.ref t, .int m] ∧ TapeOk H t ∧ 0 < m ∧ m < 1073741824 ∧ ∀ H' z, But t H H' → TapeOk H' t → 0 ≤ z → z < m → Q (.int z) H'
theorem fmod_in {x m : Int} (h : 0 < m) : 0 ≤ x.fmod m ∧ x.fmod m < m := by
  rw [Int.fmod_eq_emod_of_nonneg x (Int.le_of_lt h)]
  exact ⟨Int.emod_nonneg _ (by omega), Int.emod_lt_of_pos _ h⟩
theorem mem_len {l : List (Key × V)} (h : l.length ≤ 5) : l.length < sizeLine := Nat.lt_of_le_of_lt (show l.length ≤ 1000 by omega) (by decide)
section
variable {P : Program} {w : World} {K : PySem.W.Frag} {mg : Str → Option Value} {base : Heap}
theorem ok_take {f : Addr} {fd : FuncData} {k : Nat} (F : Fun K "_law_take" "_law_take" sTake f fd) (ml : mg "len" = none) (mi : mg "int" = none) : FnOk P w K mg base CX0 (k + 1) f fd ["tape", "many"] spTake := by
  refine F.ok scTake (fun vs H Q E h => ?_) (fun cdv A outer s H vs Q E hr h => ?_)
  · obtain ⟨t, m, rfl, _⟩ := h
    rfl
  obtain ⟨t, m, rfl, hT, hm, hm2, q⟩ := h
  have hu := hu_of hr
  refine ⟨_, C8.pss_cut (ps_if (PW.pt (pw_and (pt_cmpR op_eq (pe_dget hu (pv 0) pe_str (fun _ _ => rfl)) pe_int (nomark _))
        (pw_and1 (pt_cmpR op_lt (pe_dget hu (pv 0) pe_str (fun _ _ => rfl)) (pe_callB call_len_seq (by rfl) ml PySem.boot_len (pa_cons (pe_dget hu (pv 0) pe_str (fun _ _ => rfl)) pa_nil)) (nomark _)))))
      (pss_cons (ps_dput hu (pv 0) pe_str (pe_ix ix_list (pe_dget hu (pv 0) pe_str (fun _ _ => rfl)) (pe_dget hu (pv 0) pe_str (fun _ _ => rfl)) (fun _ _ => rfl)) rfl)
        (pss_one (ps_dput hu (pv 0) pe_str (pe_op op_add (pe_dget hu (pv 0) pe_str (fun _ _ => rfl)) pe_int) rfl))) pss_nil)
    (pss_cons (ps_if (pt_cmpR op_gt (pe_dget hu (pv 0) pe_str (fun _ _ => rfl)) pe_int (nomark _))
      (pss_cons (ps_set (i := 2) scTake.nd rfl (Or.inl rfl) (pe_op op_modN (pe_callTy call_int1 (by rfl) mi (by decide +kernel) (pa_cons (pe_dget hu (pv 0) pe_str (fun _ _ => rfl)) pa_nil)) (pv 1)))
        (pss_cons (ps_dput hu (pv 0) pe_str (pe_op op_fdivN (pe_dget hu (pv 0) pe_str (fun _ _ => rfl)) (pv 1)) rfl)
          (pss_one (ps_ret (pv 2))))) pss_nil)
    (pss_cons (ps_dput hu (pv 0) pe_str (pe_op op_add (pe_dget hu (pv 0) pe_str (fun _ _ => rfl)) pe_int) rfl)
    (pss_cons (ps_set (i := 3) scTake.nd rfl (Or.inl rfl) (pe_op op_modN (pe_callTy call_int1 (by rfl) mi (by decide +kernel) (pa_cons (pe_op op_add (pe_op op_mul (pe_dget hu (pv 0) pe_str (fun _ _ => rfl)) pe_int) (pe_op op_mul (pe_dget hu (pv 0) pe_str (fun _ _ => rfl)) pe_int)) pa_nil)) pe_int))
    (pss_cons (ps_set (i := 3) scTake.nd rfl (Or.inl rfl) (pe_op op_modN (pe_callTy call_int1 (by rfl) mi (by decide +kernel) (pa_cons (pe_op op_add (pe_op op_add (pe_op op_mul (pv 3) (pv 3)) (pe_op op_mul (pe_dget hu (pv 0) pe_str (fun _ _ => rfl)) pe_int)) pe_int) pa_nil)) pe_int))
    (pss_one (ps_ret (pe_op op_modN (pe_callTy call_int1 (by rfl) mi (by decide +kernel) (pa_cons (pv 3) pa_nil)) (pv 1)))))))), ?_⟩
  obtain ⟨kvs, c, T⟩ := hT
  have get : ∀ {H1 : Hp} {kvs : List (Key × V)} {x : Str} {v : V}, H1 t = some (.dK kvs) → valV kvs (Sum.inr x : Key) = some v → DGet H1 t (.str x) (some v) := fun {H1 kvs x v} e1 e2 => by
    have z := DGet.k (k := Sum.inr x) e1
    rw [e2] at z
    exact z
  refine ⟨fun σ' H' => σ' = L2.start ["tape", "many", "drawn", "mixed"] [.ref t, .int m] ∧ But t H H' ∧ TapeOk H' t, ?_, ?_⟩
  · obtain ⟨zl, el⟩ := T.left
    refine ⟨.ref t, rfl, t, _, rfl, get T.dict el, ?_⟩
    refine ⟨rfl, _, rfl, ?_⟩
    refine ite2 (fun c1 => ?_) (fun c1 => ?_)
    · obtain ⟨za, ea, h0⟩ := T.at
      obtain ⟨ns, en, hn⟩ := T.list
      refine ⟨.ref t, rfl, t, _, rfl, get T.dict ea, .ref t, rfl, t, _, rfl, get T.dict T.cells, c, _, rfl, .inl (SqL.of en), _, _, rfl, rfl, _, rfl, ?_⟩
      refine ite2 (fun c2 => ?_) (fun c2 => ?_)
      · have c2' := of_decide_eq_true c2
        rw [List.length_map] at c2'
        have hz : za.toNat < ns.length := by omega
        have ez : za = ((za.toNat : Nat) : Int) := by omega
        have hat : atI (ns.map V.int) za = some (.int ns[za.toNat]) := at_of ez (by rw [List.getElem?_map, List.getElem?_eq_getElem hz] <;> rfl)
        refine ⟨.ref t, rfl, t, _, rfl, get T.dict T.cells, .ref t, rfl, t, _, rfl, get T.dict ea, c, _, _, _, rfl, rfl, SqL.of en, hat, .ref t, rfl, t, _, rfl, DPut.k (k := Sum.inr "left") T.dict (mem_len T.len), ?_⟩
        have T1 := T.put "left" ns[za.toNat] (.inr (.inl rfl)) (fun z => by cases z)
        obtain ⟨za1, ea1, h01⟩ := T1.at
        refine ⟨.ref t, rfl, t, _, rfl, get T1.dict ea1, _, _, rfl, rfl, .ref t, rfl, t, _, rfl, DPut.k (k := Sum.inr "at") T1.dict (mem_len T1.len), ?_⟩
        have T2 := T1.put "at" (za1 + 1) (.inl rfl) (fun _ => by omega)
        exact ⟨rfl, (But.refl t H).upd.upd, _, c, T2⟩
      · exact ⟨rfl, But.refl t H, _, c, T⟩
    · exact ⟨rfl, But.refl t H, _, c, T⟩
  · rintro σ' H1 ⟨rfl, g1, kvs1, c1, T1⟩
    obtain ⟨zl, el⟩ := T1.left
    refine ⟨.ref t, rfl, t, _, rfl, get T1.dict el, _, _, rfl, rfl, _, rfl, ?_⟩
    refine ite2 (fun d1 => ?_) (fun d1 => ?_)
    · refine ⟨.ref t, rfl, t, _, rfl, get T1.dict el, .inl ⟨_, rfl, .int m, rfl, _, _, rfl, rfl, (by show m ≠ 0; omega), ?_⟩⟩
      refine ⟨.ref t, rfl, t, _, rfl, get T1.dict el, .int m, rfl, _, _, rfl, rfl, ⟨(by show m ≠ 0; omega), (by show m.natAbs < 1073741824; omega)⟩, .ref t, rfl, t, _, rfl, DPut.k (k := Sum.inr "left") T1.dict (mem_len T1.len), ?_⟩
      have T2 := T1.put "left" (zl.fdiv m) (.inr (.inl rfl)) (fun z => by cases z)
      have hb := fmod_in (x := zl) hm
      exact ⟨_, rfl, q _ _ g1.upd ⟨_, _, T2⟩ hb.1 hb.2⟩
    · obtain ⟨zs, es⟩ := T1.salt
      refine ⟨.ref t, rfl, t, _, rfl, get T1.dict es, _, _, rfl, rfl, .ref t, rfl, t, _, rfl, DPut.k (k := Sum.inr "salt") T1.dict (mem_len T1.len), ?_⟩
      have T2 := T1.put "salt" (zs + 1) (.inr (.inr (.inr rfl))) (fun z => by cases z)
      obtain ⟨ze, ee⟩ := T2.seed
      obtain ⟨zs2, es2⟩ := T2.salt
      refine ⟨.ref t, rfl, t, _, rfl, get T2.dict ee, _, _, rfl, rfl, .inr ⟨by decide, by decide⟩, .ref t, rfl, t, _, rfl, get T2.dict es2, _, _, rfl, rfl, .inr ⟨by decide, by decide⟩, _, _, rfl, rfl, .inl ⟨_, rfl, _, _, rfl, rfl, (by show (2147483647 : Int) ≠ 0; decide), ?_⟩⟩
      have hb := fmod_in (x := ze * 48271 + zs2 * 69621) (m := 2147483647) (by decide)
      refine ⟨_, rfl, _, rfl, _, _, rfl, rfl, .inl ⟨by have := hb.1; show -(2 ^ 64) < _; omega, by have := hb.2; show _ < (2 ^ 64 : Int); omega⟩, .ref t, rfl, t, _, rfl, get T2.dict es2, _, _, rfl, rfl, .inr ⟨by decide, by decide⟩, _, _, rfl, rfl, _, _, rfl, rfl, .inl ⟨_, rfl, _, _, rfl, rfl, (by show (2147483399 : Int) ≠ 0; decide), ?_⟩⟩
      refine ⟨_, rfl, .inl ⟨_, rfl, .int m, rfl, _, _, rfl, rfl, (by show m ≠ 0; omega), ?_⟩⟩
      exact q _ _ g1.upd ⟨_, _, T2⟩ (fmod_in hm).1 (fmod_in hm).2
end
end K02

set_option Elab.async false
set_option linter.all false
set_option maxRecDepth 100000
set_option maxHeartbeats 2000000
namespace K02
open PySem PySem.Spec PyProof.Rows L2
/-! ### isinstance(e, T), T a built-in class -/
def tIsi (K : PySem.W.Frag) (te : TE) (T : String) : TE := fun σ H Q => te σ H fun x H1 => rIsi K [x, .ty T] H1 Q
theorem pe_isi {X : Cx} {e : Expr} {te : TE} {n : Str} {T : String} {p1 p2 p3 : Pos} (he : PE X e te) (mi : X.mg "isinstance" = none) (mT : X.mg n = none) (bT : bootBuiltins n = some (.type T)) (gi : Gl X "isinstance" := by rfl) (gT : Gl X n := by rfl) (hn : n ≠ "__name__" := by decide)
    (hd : (n == ("__debug__" : Str)) = false := by decide) (hs1 : starEach (e :: [.Name n p2]) X.env = (false, eval e X.env) :: starEach [.Name n p2] X.env := by rfl) (hs2 : starEach [.Name n p2] X.env = (false, eval (.Name n p2) X.env) :: starEach [] X.env := by rfl)
    (hpl : (backTo p3 (starEach [.Name n p2] X.env)).any (·.1) = false := by rfl) :
    PE X (.Call (.Name "isinstance" p1) [e, .Name n p2] [] p3) (tIsi X.K te T) :=
  pe_callB (X := X) (p := p1) (pos := p3) call_isi gi mi (by decide +kernel) (pa_cons he (pa_cons (pe_bltn (v := .ty T) (pos := p2) gT mT bT rfl hn hd) pa_nil hs2) hs1) (he := hs1) (hpl := hpl)
theorem isi {K : PySem.W.Frag} {H : Hp} {x : V} {a T : String} {b : Bool} {Q : VK} (h1 : TyX K H x (.type a)) (h2 : kitB a T = some b) (q : Q (.bl b) H) : rIsi K [x, .ty T] H Q :=
  ⟨x, .ty T, .type a, .type T, b, rfl, .ty T, h1, kit_ty h2, q⟩
theorem ifF {c A B : Prop} [Decidable c] (hc : ¬ c) (h : B) : if decide c = true then A else B := by
  rw [decide_eq_false hc]
  exact iteF h
theorem ifT {c A B : Prop} [Decidable c] (hc : c) (h : A) : if decide c = true then A else B := by
  rw [decide_eq_true hc]
  exact iteT h
theorem iteF' {A B : Prop} (h : B) : if false = true then A else B := iteF h
theorem iteT' {A B : Prop} (h : A) : if true = true then A else B := iteT h
theorem iteNT {A B : Prop} (h : B) : if (!true) = true then A else B := iteF h
theorem rix {K : PySem.W.Frag} {H : Hp} {p : Addr} {xs : List V} {i : Int} {v : V} {Q : VK} (h : SqL K H p xs ∨ SqT K H p xs) (e : atI xs i = some v) (q : Q v H) : rIx K (.ref p) (.int i) H Q := by
  rcases h with h | h
  · exact .inl ⟨p, xs, i, v, rfl, rfl, h, e, q⟩
  · exact .inr (.inl ⟨p, xs, i, v, rfl, rfl, h, e, q⟩)
theorem ty_tup {K : PySem.W.Frag} {H : Hp} {a : Addr} {xs : List V} (h : SqT K H a xs) : TyX K H (.ref a) (.type "tuple") := by
  rcases h with (h | ⟨o, h⟩) | ⟨o, _, _, h, c, _⟩
  · exact .base (.tup h)
  · exact .fTuple h
  · exact .kTuple h c
theorem ty_lst {K : PySem.W.Frag} {H : Hp} {a : Addr} {xs : List V} (h : SqL K H a xs) : TyX K H (.ref a) (.type "list") := by
  rcases h with (h | ⟨o, h⟩) | ⟨o, _, _, h, c, _⟩
  · exact .base (.lst h)
  · exact .base (.frz h)
  · exact .kList h c
theorem ty_str {K : PySem.W.Frag} {H : Hp} (x : Str) : TyX K H (.str x) (.type "str") := .base (.str x)
theorem ty_int {K : PySem.W.Frag} {H : Hp} (x : Int) : TyX K H (.int x) (.type "int") := .base (.int x)
/-! ### two values that hold the same -/
inductive Eqd (K : PySem.W.Frag) (H : Hp) : Nat → V → V → Prop where
  | str (n : Nat) (x : Str) : Eqd K H (n + 1) (.str x) (.str x)
  | tup {n : Nat} {a b : Addr} {xs ys : List V} (h1 : SqT K H a xs) (h2 : SqT K H b ys) (hl : xs.length = ys.length) (hz : ys.length ≤ 1000) (h : ∀ (i : Nat) (x y : V), xs[i]? = some x → ys[i]? = some y → Eqd K H n x y) : Eqd K H (n + 1) (.ref a) (.ref b)
  | lst {n : Nat} {a b : Addr} {xs ys : List V} (h1 : SqL K H a xs) (h2 : SqL K H b ys) (hl : xs.length = ys.length) (hz : ys.length ≤ 1000) (h : ∀ (i : Nat) (x y : V), xs[i]? = some x → ys[i]? = some y → Eqd K H n x y) : Eqd K H (n + 1) (.ref a) (.ref b)
abbrev sSameItems : Stmt := top 22
abbrev sSame : Stmt := top 23
theorem scSI : FnScope ["actual", "expected", "k"] ["actual", "expected"] (defScope sSameItems) := ⟨rfl, rfl, rfl, by decide +kernel, rfl, by decide +kernel, by decide +kernel⟩
theorem scSame : FnScope ["actual", "expected", "key"] ["actual", "expected"] (defScope sSame) := ⟨rfl, rfl, rfl, by decide +kernel, rfl, by decide +kernel, by decide +kernel⟩
def spSame (K : PySem.W.Frag) (n : Nat) : Sp := fun vs H Q _ => ∃ x y, vs = [x, y] ∧ Eqd K H n x y ∧ Q (.bl true) H
def spItems (K : PySem.W.Frag) (n : Nat) : Sp := fun vs H Q _ => ∃ (a b : Addr) (xs ys : List V), vs = [.ref a, .ref b] ∧ (SqL K H a xs ∨ SqT K H a xs) ∧ (SqL K H b ys ∨ SqT K H b ys) ∧ xs.length = ys.length ∧ ys.length ≤ 1000 ∧
  (∀ (i : Nat) (x y : V), xs[i]? = some x → ys[i]? = some y → Eqd K H n x y) ∧ Q (.bl true) H
section
variable {P : Program} {w : World} {K : PySem.W.Frag} {mg : Str → Option Value} {base : Heap} {f g : Addr} {fd gd : FuncData}
theorem ok_items {n k : Nat} (F : Fun K "_law_same_items" "_law_same_items" sSameItems f fd) (G : FnOk P w K mg base CX0 k g gd ["actual", "expected"] (spSame K n)) (bG : Binds K gd ["actual", "expected"] []) (kG : PySem.W.keepIn K (.ref g) = true) (mG : mg "_law_same" = some (.ref g)) (ml : mg "len" = none) (mr : mg "range" = none) :
    FnOk P w K mg base CX0 (k + 1) f fd ["actual", "expected"] (spItems K n) := by
  refine F.ok scSI (fun vs H Q E h => ?_) (fun cdv A outer s H vs Q E hr h => ?_)
  · obtain ⟨a, b, xs, ys, rfl, _⟩ := h
    rfl
  obtain ⟨a, b, xs, ys, rfl, hx, hy, hl, hz, hE, q⟩ := h
  refine ⟨_, pss_cons (ps_if (pt_cmpR op_ne (pe_callB call_len_seq (by rfl) ml PySem.boot_len (pa_cons (pv 0) pa_nil)) (pe_callB call_len_seq (by rfl) ml PySem.boot_len (pa_cons (pv 1) pa_nil)) (nomark _)) pss_never pss_nil)
    (pss_cons (ps_for PassesOwn.never rfl (pi_range1 (by rfl) mr (pa_cons (pe_callB call_len_seq (by rfl) ml PySem.boot_len (pa_cons (pv 1) pa_nil)) pa_nil)) (pg_name (i := 2) scSI.nd rfl (Or.inl rfl))
      (pss_one (ps_if (pt_not (pt_val (pe_call G hr (by rfl) mG kG bG .nil pass0 (pa_cons (pe_ix ix_seq (pv 0) (pv 2) (fun _ _ => rfl)) (pa_cons (pe_ix ix_seq (pv 1) (pv 2) (fun _ _ => rfl)) pa_nil))))) pss_never pss_nil)))
    (pss_one (ps_ret pe_bl))), ?_⟩
  refine ⟨.ref a, rfl, a, xs, rfl, hx, .ref b, rfl, b, ys, rfl, hy, rfl, _, rfl, ?_⟩
  rw [hl]
  refine iteNS rfl ?_
  refine ⟨.ref b, rfl, b, ys, rfl, hy, ys.length, rfl, by omega, (by show ((ys.length : Nat) : Int) < 2 ^ 62; omega), ?_⟩
  refine for_range (n := ((ys.length : Nat) : Int).toNat) (fun i σ H1 => ∃ y, σ = [some (.ref a), some (.ref b), y] ∧ H1 = H) ⟨none, rfl, rfl⟩ (fun i σ H1 hi p => ?_) fun σ H1 p => ?_
  · obtain ⟨y, rfl, rfl⟩ := p
    have hi2 : i < ys.length := by omega
    have hi1 : i < xs.length := by omega
    have gx : xs[i]? = some xs[i] := List.getElem?_eq_getElem hi1
    have gy : ys[i]? = some ys[i] := List.getElem?_eq_getElem hi2
    have at1 : atI xs (0 + (i : Int)) = some xs[i] := at_of (by omega) gx
    have at2 : atI ys (0 + (i : Int)) = some ys[i] := at_of (by omega) gy
    refine ⟨.ref a, rfl, .int _, rfl, rix hx at1 ⟨.ref b, rfl, .int _, rfl, rix hy at2 ⟨_, _, rfl, hE i _ _ gx gy, true, rfl, (iteNT ?_ : if (!true) = true then _ else _)⟩⟩⟩
    exact ⟨_, rfl, rfl⟩
  · obtain ⟨y, rfl, rfl⟩ := p
    exact q
theorem ok_same {n k : Nat} (F : Fun K "_law_same" "_law_same" sSame f fd) (G : FnOk P w K mg base CX0 k g gd ["actual", "expected"] (spItems K n)) (bG : Binds K gd ["actual", "expected"] []) (kG : PySem.W.keepIn K (.ref g) = true) (mG : mg "_law_same_items" = some (.ref g)) (mi : mg "isinstance" = none)
    (mb : mg "bool" = none) (mn : mg "int" = none) (ms : mg "str" = none) (mt : mg "tuple" = none) (mll : mg "list" = none) :
    FnOk P w K mg base CX0 (k + 1) f fd ["actual", "expected"] (spSame K (n + 1)) := by
  refine F.ok scSame (fun vs H Q E h => ?_) (fun cdv A outer s H vs Q E hr h => ?_)
  · obtain ⟨x, y, rfl, _⟩ := h
    rfl
  obtain ⟨x, y, rfl, hE, q⟩ := h
  refine ⟨_, pss_cons (ps_if (pt_cmpR op_isN (pv 1) pe_non (nomark _)) pss_never pss_nil)
    (pss_cons (ps_if (pt_val (pe_isi (pv 1) mi mb rfl)) pss_never pss_nil)
    (pss_cons (ps_if (pt_val (pe_isi (pv 1) mi mn rfl)) pss_never pss_nil)
    (pss_cons (ps_if (pt_val (pe_isi (pv 1) mi ms rfl)) (pss_one (ps_ret (pe_and (pe_isi (pv 0) mi ms rfl) (pe_one (pe_cmpR op_eq (pv 0) (pv 1) (nomark _)))))) pss_nil)
    (pss_cons (ps_if (pt_val (pe_isi (pv 1) mi mt rfl)) (pss_one (ps_ret (pe_and (pe_isi (pv 0) mi mt rfl) (pe_one (pe_call G hr (by rfl) mG kG bG .nil pass0 (pa_cons (pv 0) (pa_cons (pv 1) pa_nil))))))) pss_nil)
    (pss_cons (ps_if (pt_val (pe_isi (pv 1) mi mll rfl)) (pss_one (ps_ret (pe_and (pe_isi (pv 0) mi mll rfl) (pe_one (pe_call G hr (by rfl) mG kG bG .nil pass0 (pa_cons (pv 0) (pa_cons (pv 1) pa_nil))))))) pss_nil)
    pss_never))))), ?_⟩
  cases hE with
  | str _ z =>
    refine ⟨_, rfl, rfl, _, rfl, ifF (fun z => by cases z) ?_⟩
    refine ⟨_, rfl, isi (ty_str z) (by decide +kernel : kitB "str" "bool" = some false) ⟨_, rfl, iteF' ?_⟩⟩
    refine ⟨_, rfl, isi (ty_str z) (by decide +kernel : kitB "str" "int" = some false) ⟨_, rfl, iteF' ?_⟩⟩
    refine ⟨_, rfl, isi (ty_str z) (by decide +kernel : kitB "str" "str" = some true) ⟨_, rfl, iteT' ?_⟩⟩
    refine ⟨_, rfl, isi (ty_str z) (by decide +kernel : kitB "str" "str" = some true) ⟨_, rfl, iteT' ?_⟩⟩
    refine ⟨_, rfl, _, rfl, rfl, ?_⟩
    rw [decide_eq_true rfl]
    exact q
  | tup h1 h2 hl hz h =>
    refine ⟨_, rfl, rfl, _, rfl, ifF (fun z => by cases z) ?_⟩
    refine ⟨_, rfl, isi (ty_tup h2) (by decide +kernel : kitB "tuple" "bool" = some false) ⟨_, rfl, iteF' ?_⟩⟩
    refine ⟨_, rfl, isi (ty_tup h2) (by decide +kernel : kitB "tuple" "int" = some false) ⟨_, rfl, iteF' ?_⟩⟩
    refine ⟨_, rfl, isi (ty_tup h2) (by decide +kernel : kitB "tuple" "str" = some false) ⟨_, rfl, iteF' ?_⟩⟩
    refine ⟨_, rfl, isi (ty_tup h2) (by decide +kernel : kitB "tuple" "tuple" = some true) ⟨_, rfl, iteT' ?_⟩⟩
    refine ⟨_, rfl, isi (ty_tup h1) (by decide +kernel : kitB "tuple" "tuple" = some true) ⟨_, rfl, iteT' ?_⟩⟩
    exact ⟨_, rfl, _, rfl, _, _, _, _, rfl, .inr h1, .inr h2, hl, hz, h, q⟩
  | lst h1 h2 hl hz h =>
    refine ⟨_, rfl, rfl, _, rfl, ifF (fun z => by cases z) ?_⟩
    refine ⟨_, rfl, isi (ty_lst h2) (by decide +kernel : kitB "list" "bool" = some false) ⟨_, rfl, iteF' ?_⟩⟩
    refine ⟨_, rfl, isi (ty_lst h2) (by decide +kernel : kitB "list" "int" = some false) ⟨_, rfl, iteF' ?_⟩⟩
    refine ⟨_, rfl, isi (ty_lst h2) (by decide +kernel : kitB "list" "str" = some false) ⟨_, rfl, iteF' ?_⟩⟩
    refine ⟨_, rfl, isi (ty_lst h2) (by decide +kernel : kitB "list" "tuple" = some false) ⟨_, rfl, iteF' ?_⟩⟩
    refine ⟨_, rfl, isi (ty_lst h2) (by decide +kernel : kitB "list" "list" = some true) ⟨_, rfl, iteT' ?_⟩⟩
    refine ⟨_, rfl, isi (ty_lst h1) (by decide +kernel : kitB "list" "list" = some true) ⟨_, rfl, iteT' ?_⟩⟩
    exact ⟨_, rfl, _, rfl, _, _, _, _, rfl, .inl h1, .inl h2, hl, hz, h, q⟩
theorem no_same : FnOk P w K mg base CX0 0 f fd ["actual", "expected"] (spSame K 0) := by
  have no : ∀ vs H Q E, ¬ spSame K 0 vs H Q E := fun vs H Q E h => by
    obtain ⟨x, y, _, h, _⟩ := h
    cases h
  exact ⟨fun vs H Q E h => absurd h (no vs H Q E), fun A outer s H args us vs Q E _ _ _ _ h => absurd h (no vs H Q E)⟩
/-- the pair, by the number of levels -/
theorem same_all (F : Fun K "_law_same" "_law_same" sSame f fd) (bF : Binds K fd ["actual", "expected"] []) (mF : mg "_law_same" = some (.ref f)) (G : Fun K "_law_same_items" "_law_same_items" sSameItems g gd) (bG : Binds K gd ["actual", "expected"] []) (mG : mg "_law_same_items" = some (.ref g))
    (ml : mg "len" = none) (mr : mg "range" = none) (mi : mg "isinstance" = none) (mb : mg "bool" = none) (mn : mg "int" = none) (ms : mg "str" = none) (mt : mg "tuple" = none) (mll : mg "list" = none) :
    ∀ n : Nat, FnOk P w K mg base CX0 (2 * n) f fd ["actual", "expected"] (spSame K n)
  | 0 => no_same
  | n + 1 => ok_same F (ok_items G (same_all F bF mF G bG mG ml mr mi mb mn ms mt mll n) bF F.kp mF ml mr) bG G.kp mG mi mb mn ms mt mll
end
end K02

set_option Elab.async false
set_option linter.all false
set_option maxRecDepth 100000
set_option maxHeartbeats 2000000
namespace K02
open PySem PySem.Spec PyProof.Rows L2
/-! ### shapes -/
inductive Sh where
  | nil
  | word (l : Str) (t : Sh)
  | tree (l : Str) (a b : Sh)
deriving Inhabited, DecidableEq
def Sh.count : Sh → Nat
  | .nil => 0
  | .word _ t => t.count + 1
  | .tree _ a b => a.count + b.count + 1
def kids : Sh → List Sh
  | .nil => []
  | .word _ t => [t]
  | .tree _ a b => [a, b]
def parts : Sh → List Sh
  | .nil => [.nil]
  | .word l t => .word l t :: parts t
  | .tree l a b => .tree l a b :: (parts a ++ parts b)
theorem parts_eq (t : Sh) : parts t = t :: (kids t).flatMap parts := by
  cases t <;> simp [parts, kids]
theorem parts_len : ∀ t : Sh, (parts t).length ≤ 2 * t.count + 1
  | .nil => by simp [parts, Sh.count]
  | .word l t => by
    have := parts_len t
    simp only [parts, Sh.count, List.length_cons]
    omega
  | .tree l a b => by
    have h1 := parts_len a
    have h2 := parts_len b
    simp only [parts, Sh.count, List.length_cons, List.length_append]
    omega
def text : Sh → Str
  | .nil => "."
  | .word l t => l ++ text t
  | .tree l a b => l ++ "(" ++ text a ++ "," ++ text b ++ ")"
theorem str_len (s : String) (n : Nat) (h : (Str.ofString s).length = n) : ((s : Str)).length = n := h
/-- every label is one letter -/
def One1 (l : Str) : Prop := l.length = 1 ∧ PyData.strOk l = true
def Ones : Sh → Prop
  | .nil => True
  | .word l t => One1 l ∧ Ones t
  | .tree l a b => One1 l ∧ Ones a ∧ Ones b
theorem text_len : ∀ t : Sh, Ones t → (text t).length ≤ 5 * t.count + 1
  | .nil, _ => by
    show (Str.ofString ".").length ≤ _
    rw [show (Str.ofString ".").length = 1 by decide +kernel]
    simp [Sh.count]
  | .word l t, h => by
    have := text_len t h.2
    simp only [text, Sh.count, Str.length_append, h.1.1]
    omega
  | .tree l a b, h => by
    have h1 := text_len a h.2.1
    have h2 := text_len b h.2.2
    simp only [text, Sh.count, Str.length_append, h.1.1]
    rw [show (Str.ofString "(").length = 1 by decide +kernel, show (Str.ofString ",").length = 1 by decide +kernel, show (Str.ofString ")").length = 1 by decide +kernel]
    omega
/-- what stands at the end of the parts is a row of shapes -/
inductive Chain : List Sh → List Sh → Prop where
  | nil : Chain [] []
  | leaf {L fs : List Sh} (h : Chain L fs) : Chain (.nil :: L) (.nil :: fs)
  | word {L fs : List Sh} {l : Str} {u : Sh} (h : Chain L (u :: fs)) : Chain (.word l u :: L) (.word l u :: fs)
  | tree {L fs : List Sh} {l : Str} {a b : Sh} (h : Chain L (a :: b :: fs)) : Chain (.tree l a b :: L) (.tree l a b :: fs)
theorem chain_parts : ∀ (t : Sh) {L fs : List Sh}, Chain L fs → Chain (parts t ++ L) (t :: fs)
  | .nil, _, _, h => .leaf h
  | .word l u, _, _, h => .word (chain_parts u h)
  | .tree l a b, L, fs, h => by
    have q := chain_parts a (chain_parts b h)
    rw [← List.append_assoc] at q
    exact .tree q
theorem chain_tail {x : Sh} {L fs : List Sh} (h : Chain (x :: L) fs) : ∃ fs', Chain L fs' := by
  cases h with
  | leaf h => exact ⟨_, h⟩
  | word h => exact ⟨_, h⟩
  | tree h => exact ⟨_, h⟩
theorem chain_drop {L fs : List Sh} (h : Chain L fs) : ∀ k, ∃ fs', Chain (L.drop k) fs' := by
  intro k
  induction k generalizing L fs with
  | zero => exact ⟨fs, h⟩
  | succ k ih =>
    cases L with
    | nil => exact ⟨fs, h⟩
    | cons x L =>
      obtain ⟨f, q⟩ := chain_tail h
      exact ih q
theorem chain_one : ∀ {L fs gs : List Sh}, Chain L fs → Chain L gs → fs = gs := by
  intro L fs gs h
  induction h generalizing gs with
  | nil => intro q; cases q; rfl
  | leaf h ih => intro q; cases q with | leaf q => rw [ih q]
  | word h ih => intro q; cases q with | word q => have := ih q; simp at this; rw [this]
  | tree h ih => intro q; cases q with | tree q => have := ih q; simp at this; rw [this]
/-! ### shapes in the heap -/
inductive Rep (H : Hp) : Addr → Sh → Prop where
  | nil {a : Addr} (h : H a = some (.tup [])) : Rep H a .nil
  | word {a c : Addr} {l : Str} {t : Sh} (h : H a = some (.tup [.str l, .ref c])) (r : Rep H c t) : Rep H a (.word l t)
  | tree {a c d : Addr} {l : Str} {t u : Sh} (h : H a = some (.tup [.str l, .ref c, .ref d])) (r1 : Rep H c t) (r2 : Rep H d u) : Rep H a (.tree l t u)
theorem Rep.same {H H' : Hp} (g : Same H H') : ∀ {t : Sh} {a : Addr}, Rep H a t → Rep H' a t
  | _, _, .nil h => .nil (g _ _ h)
  | _, _, .word h r => .word (g _ _ h) (r.same g)
  | _, _, .tree h r1 r2 => .tree (g _ _ h) (r1.same g) (r2.same g)
theorem Rep.ext {H H' : Hp} (g : LamX.ExtN H H') : ∀ {t : Sh} {a : Addr}, Rep H a t → Rep H' a t
  | _, _, .nil h => .nil (g _ _ h (fun _ z => by cases z))
  | _, _, .word h r => .word (g _ _ h (fun _ z => by cases z)) (r.ext g)
  | _, _, .tree h r1 r2 => .tree (g _ _ h (fun _ z => by cases z)) (r1.ext g) (r2.ext g)
theorem Rep.one {H : Hp} : ∀ {t u : Sh} {a : Addr}, Rep H a t → Rep H a u → t = u
  | _, _, _, .nil h, r => by
    cases r with
    | nil => rfl
    | word h' => rw [h] at h'; cases h'
    | tree h' => rw [h] at h'; cases h'
  | _, _, _, .word h r, r' => by
    cases r' with
    | nil h' => rw [h] at h'; cases h'
    | word h' q => rw [h] at h'; cases h'; rw [r.one q]
    | tree h' => rw [h] at h'; cases h'
  | _, _, _, .tree h r1 r2, r' => by
    cases r' with
    | nil h' => rw [h] at h'; cases h'
    | word h' => rw [h] at h'; cases h'
    | tree h' q1 q2 => rw [h] at h'; cases h'; rw [r1.one q1, r2.one q2]
/-- the tuple at such an address: a label if any, and the children -/
theorem Rep.tup {H : Hp} {a : Addr} {t : Sh} (r : Rep H a t) : ∃ xs, H a = some (.tup xs) ∧ xs.length ≤ 3 := by
  cases r with
  | nil h => exact ⟨_, h, by show 0 ≤ 3; decide⟩
  | word h => exact ⟨_, h, by show 2 ≤ 3; decide⟩
  | tree h => exact ⟨_, h, by show 3 ≤ 3; decide⟩
def Reps (H : Hp) : List Addr → List Sh → Prop
  | [], [] => True
  | a :: as, s :: ss => Rep H a s ∧ Reps H as ss
  | _, _ => False
theorem Reps.mono {H H' : Hp} (g : ∀ {t : Sh} {a : Addr}, Rep H a t → Rep H' a t) : ∀ {as : List Addr} {ss : List Sh}, Reps H as ss → Reps H' as ss
  | [], [], _ => True.intro
  | _ :: _, _ :: _, ⟨h, t⟩ => ⟨g h, Reps.mono g t⟩
theorem Reps.same {H H' : Hp} (g : Same H H') {as : List Addr} {ss : List Sh} (h : Reps H as ss) : Reps H' as ss := h.mono (fun r => r.same g)
theorem Reps.append {H : Hp} : ∀ {as bs : List Addr} {ss ts : List Sh}, Reps H as ss → Reps H bs ts → Reps H (as ++ bs) (ss ++ ts)
  | [], _, [], _, _, h => h
  | _ :: _, _, _ :: _, _, ⟨h, t⟩, q => ⟨h, t.append q⟩
theorem Reps.len {H : Hp} : ∀ {as : List Addr} {ss : List Sh}, Reps H as ss → as.length = ss.length
  | [], [], _ => rfl
  | _ :: _, _ :: _, ⟨_, t⟩ => congrArg (· + 1) t.len
theorem Reps.get {H : Hp} : ∀ {as : List Addr} {ss : List Sh} {i : Nat} {s : Sh}, Reps H as ss → ss[i]? = some s → ∃ a, as[i]? = some a ∧ Rep H a s
  | [], [], i, s, _, e => by simp at e
  | a :: as, s' :: ss, 0, s, ⟨h, _⟩, e => by
    simp at e
    exact ⟨a, rfl, e ▸ h⟩
  | a :: as, s' :: ss, i + 1, s, ⟨_, t⟩, e => t.get (i := i) (by simpa using e)
theorem Reps.get' {H : Hp} : ∀ {as : List Addr} {ss : List Sh} {i : Nat} {a : Addr}, Reps H as ss → as[i]? = some a → ∃ s, ss[i]? = some s ∧ Rep H a s
  | [], [], i, s, _, e => by simp at e
  | a :: as, s' :: ss, 0, s, ⟨h, _⟩, e => by
    simp at e
    exact ⟨s', rfl, e ▸ h⟩
  | a :: as, s' :: ss, i + 1, s, ⟨_, t⟩, e => t.get' (i := i) (by simpa using e)
theorem Reps.nil {H : Hp} : Reps H [] [] := True.intro
theorem Reps.cons {H : Hp} {a : Addr} {s : Sh} {as : List Addr} {ss : List Sh} (h : Rep H a s) (t : Reps H as ss) : Reps H (a :: as) (s :: ss) := ⟨h, t⟩
theorem Reps.snoc {H : Hp} {a : Addr} {s : Sh} {as : List Addr} {ss : List Sh} (t : Reps H as ss) (h : Rep H a s) : Reps H (as ++ [a]) (ss ++ [s]) := t.append ⟨h, True.intro⟩
/-- the children of a shape in the heap -/
theorem Rep.kids {H : Hp} {a : Addr} {t : Sh} (r : Rep H a t) : ∃ xs cs, H a = some (.tup xs) ∧ xs.drop 1 = cs.map V.ref ∧ Reps H cs (kids t) ∧ xs.length ≤ 3 ∧ (cs = [] → t = .nil ∧ xs = []) := by
  cases r with
  | nil h => exact ⟨_, [], h, rfl, True.intro, by show 0 ≤ 3; decide, fun _ => ⟨rfl, rfl⟩⟩
  | word h r => exact ⟨_, [_], h, rfl, ⟨r, True.intro⟩, by show 2 ≤ 3; decide, fun z => by cases z⟩
  | tree h r1 r2 => exact ⟨_, [_, _], h, rfl, ⟨r1, r2, True.intro⟩, by show 3 ≤ 3; decide, fun z => by cases z⟩
end K02

set_option Elab.async false
set_option linter.all false
set_option maxRecDepth 100000
set_option maxHeartbeats 2000000
namespace K02
open PySem PySem.Spec PyProof.Rows L2
theorem gn {i : Nat} {v : V} {σ : L2.St} {H : Hp} {Q : L2.St → Hp → Prop} (h : Q (σ.set i (some v)) H) : gName i v σ H Q := h
theorem nxs {A rt bk ct} {σ : L2.St} {H : Hp} (h : A σ H) : ({ nx := A, rt := rt, bk := bk, ct := ct } : Ends).nx σ H := h
theorem while_seq {c : TT} {tb u : TS} {D : Ends} {σ : L2.St} {H : Hp} (Pv : L2.St → Hp → Prop) (μ : L2.St → Hp → Nat) (h0 : Pv σ H)
    (hs : ∀ σ H, Pv σ H → c σ H fun b H1 => if b = true then tb { nx := fun σ' H' => Pv σ' H' ∧ μ σ' H' < μ σ H, ct := fun σ' H' => Pv σ' H' ∧ μ σ' H' < μ σ H, bk := u D, rt := D.rt } σ H1 else u D σ H1)
    (mono : ∀ σ H Q Q', (∀ b H1, Q b H1 → Q' b H1) → c σ H Q → c σ H Q') : tSeq (tWhile c tb) u D σ H := while_by (D := { D with nx := u D }) Pv μ h0 hs mono
abbrev sParts : Stmt := top 11
theorem scParts : FnScope ["shape", "waiting", "found", "now"] ["shape"] (defScope sParts) := ⟨rfl, rfl, rfl, by decide +kernel, rfl, by decide +kernel, by decide +kernel⟩
def spParts : Sp := fun vs H Q _ => ∃ (a : Addr) (t : Sh), vs = [.ref a] ∧ Rep H a t ∧ t.count ≤ 100 ∧ ∀ H' q as, Same H H' → H q = none → H' q = some (.lst (as.map V.ref)) → Reps H' as (parts t) → Q (.ref q) H'
theorem small' {n : Nat} (h : n < 1000) : n < sizeLine := Nat.lt_of_lt_of_le h (small (by decide))
/-- shapes stay where all but two lists stays -/
theorem Rep.but {H H' : Hp} {W D : Addr} {xs ys : List V} (eW : H W = some (.lst xs)) (eD : H D = some (.lst ys)) (g : ∀ b o, H b = some o → b ≠ W → b ≠ D → H' b = some o) {t : Sh} {a : Addr} (r : Rep H a t) : Rep H' a t := by
  have ne : ∀ {b : Addr} {zs : List V}, H b = some (.tup zs) → H' b = some (.tup zs) := fun {b zs} e => g b _ e (fun z => by rw [z, eW] at e; cases e) (fun z => by rw [z, eD] at e; cases e)
  induction r with
  | nil h => exact .nil (ne h)
  | word h _ ih => exact .word (ne h) ih
  | tree h _ _ i1 i2 => exact .tree (ne h) i1 i2
theorem revs {H : Hp} {as : List Addr} {ss : List Sh} (h : Reps H as.reverse ss) : ∀ {a : Addr} {cs : List Addr}, as = cs ++ [a] → ∃ s r, ss = s :: r ∧ Rep H a s ∧ Reps H cs.reverse r := by
  intro a cs e
  subst e
  rw [List.reverse_append] at h
  cases ss with
  | nil => exact h.elim
  | cons s r => exact ⟨s, r, rfl, h.1, h.2⟩
theorem cut1 (xs : List V) : cutV xs (some 1) none = xs.drop 1 := by
  unfold cutV
  rw [show HT.sIx xs.length 0 (some 1) = min 1 xs.length from HT.sIx_nat xs.length 0 1, HT.sIx_none]
  cases xs with
  | nil => rfl
  | cons x r =>
    rw [show min 1 (x :: r).length = 1 by
      rw [List.length_cons]
      omega]
    show (List.take ((x :: r).length - 1) r) = r
    rw [List.length_cons, Nat.add_sub_cancel]
    exact List.take_length
/-- t[1:], t a tuple -/
theorem tail_sl {K : PySem.W.Frag} {H : Hp} {c : Addr} {xs : List V} {σ : L2.St} {Q : VK} (h : H c = some (.tup xs)) (q : ∀ p H', Same H H' → H' p = some (.tup (xs.drop 1)) → Q (.ref p) H') : tNoPart σ H fun u H3 => rSlA K (.ref c) (some 1) u H3 Q := by
  refine ⟨c, xs, rfl, SqT.of h, fun z => ?_, fun _ p hp => ?_⟩
  · refine q c H (Same.refl H) ?_
    have e : xs = [] := by
      have := z.1
      rw [show HT.sIx xs.length 0 (some 1) = min 1 xs.length from HT.sIx_nat xs.length 0 1] at this
      cases xs with
      | nil => rfl
      | cons x r => simp at this
    rw [e] at h ⊢
    exact h
  · refine q p _ (same_new hp) ?_
    rw [upd_same, cut1]
section
variable {P : Program} {w : World} {K : PySem.W.Frag} {mg : Str → Option Value} {base : Heap}
theorem ok_parts {f : Addr} {fd : FuncData} {k : Nat} (F : Fun K "_parts" "_parts" sParts f fd) (ml : mg "list" = none) (mr : mg "reversed" = none) : FnOk P w K mg base CX0 (k + 1) f fd ["shape"] spParts := by
  refine F.ok scParts (fun vs H Q E h => ?_) (fun cdv A outer s H vs Q E hr h => ?_)
  · obtain ⟨a, t, rfl, _⟩ := h
    rfl
  obtain ⟨a, t, rfl, hR, hc, q⟩ := h
  have hu := hu_of hr
  refine ⟨_, pss_cons (ps_set (i := 1) scParts.nd rfl (Or.inl rfl) (pe_lst (pa_cons (pv 0) pa_nil)))
    (pss_cons (ps_set (i := 2) scParts.nd rfl (Or.inl rfl) (pe_lst pa_nil))
    (pss_cons (ps_while PassesOwn.never (pt_truth (pv 1) (fun _ => rfl))
      (pss_cons (ps_set (i := 3) scParts.nd rfl (Or.inl rfl) (pe_bm0 PySem.F.plainAttrs_list PySem.F.slot_list_pop PySem.F.type_list_pop mt_pop (pv 1)))
      (pss_cons (ps_expr (pe_bm PySem.F.plainAttrs_list PySem.F.slot_list_append PySem.F.type_list_append mt_append (pv 2) (pa_cons (pv 3) pa_nil)))
      (pss_one (ps_expr (pe_bm PySem.F.plainAttrs_list PySem.F.slot_list_extend PySem.F.type_list_extend mt_extend (pv 1) (pa_cons (pe_listRev rfl (by rfl) ml (by rfl) mr (pe_slice sl_tupA (pv 3) (po_some pe_int) po_none)) pa_nil)))))))
    (pss_one (ps_ret (pv 2))))), ?_⟩
  refine ⟨_, rfl, (by show 1 ≤ sizeLine; exact small (by decide)), fun W hW => ⟨(by show 0 ≤ sizeLine; exact Nat.zero_le _), fun D hD => ?_⟩⟩
  have hWD : W ≠ D := ne_of_none upd_same hD
  have hD0 : H D = none := by
    have := hD
    rwa [upd_ne (Ne.symm hWD)] at this
  refine gn (nxs (while_seq (fun σ H1 => ∃ (y : Option V) (as bs : List Addr) (ws fs : List Sh), σ = [some (.ref a), some (.ref W), some (.ref D), y] ∧ Same H H1 ∧ H1 W = some (.lst (as.map V.ref)) ∧ H1 D = some (.lst (bs.map V.ref)) ∧
      Reps H1 as.reverse ws ∧ Reps H1 bs fs ∧ fs ++ ws.flatMap parts = parts t)
    (fun σ H1 => (parts t).length - (match H1 D with | some (.lst xs) => xs.length | _ => 0)) ?_ (fun σ H1 p => ?_) (fun σ H Q Q' hq h => ?_)))
  · refine ⟨none, [a], [], [t], [], rfl, fun b o e => ?_, ?_, upd_same, ⟨?_, True.intro⟩, True.intro, by simp⟩
    · rw [upd_ne (ne_of_none e hD0), upd_ne (ne_of_none e hW)]
      exact e
    · rw [upd_ne hWD, upd_same]
      rfl
    · exact hR.same fun b o e => by
        rw [upd_ne (ne_of_none e hD0), upd_ne (ne_of_none e hW)]
        exact e
  · obtain ⟨y, as, bs, ws, fs, rfl, g, eW, eD, rW, rD, ep⟩ := p
    refine ⟨_, rfl, _, .inl ⟨_, SqL.of eW, rfl⟩, ?_⟩
    rcases List.eq_nil_or_concat as with e | ⟨cs, x, e⟩
    · subst e
      refine iteF' ?_
      have hw : ws = [] := by
        cases ws with
        | nil => rfl
        | cons _ _ => exact rW.elim
      subst hw
      rw [List.flatMap_nil, List.append_nil] at ep
      subst ep
      exact ⟨_, rfl, q _ _ _ g hD0 eD rD⟩
    · rw [List.concat_eq_append] at e
      obtain ⟨s, r, e2, rx, rr⟩ := revs rW e
      subst e e2
      have hne : (!((cs ++ [x]).map V.ref).isEmpty) = true := by simp
      rw [hne]
      refine iteT' ?_
      have hlast : ((cs ++ [x]).map V.ref)[((cs ++ [x]).map V.ref).length - 1]? = some (V.ref x) := by simp
      refine ⟨_, rfl, .inl ⟨rfl, _, SqL.of eW⟩, W, _, _, rfl, rfl, eW, hlast, ?_⟩
      have hdl : ((cs ++ [x]).map V.ref).dropLast = cs.map V.ref := by simp
      rw [hdl]
      have hxW : x ≠ W := by
        obtain ⟨xs, e, _⟩ := rx.tup
        intro z
        rw [z, eW] at e
        cases e
      have hDW : D ≠ W := hWD.symm
      have hlen : bs.length < (parts t).length := by
        rw [← ep, List.length_append, rD.len, List.flatMap_cons, List.length_append, parts_eq s, List.length_cons]
        omega
      have hcap := parts_len t
      refine ⟨_, rfl, .inl ⟨rfl, _, SqL.of (by rw [upd_ne hDW]; exact eD)⟩, _, rfl, D, _, _, rfl, rfl, (by rw [upd_ne hDW]; exact eD), (by rw [List.length_map]; exact small' (by omega)), ?_⟩
      obtain ⟨xs, ks, e3, e4, rk, h3, _⟩ := rx.kids
      have hxD : x ≠ D := by
        intro z
        rw [z, eD] at e3
        cases e3
      have e5 : (upd (upd H1 W (.lst (cs.map V.ref))) D (.lst (bs.map V.ref ++ [V.ref x]))) x = some (.tup xs) := by rw [upd_ne hxD, upd_ne hxW]; exact e3
      refine ⟨_, rfl, .inl ⟨rfl, _, SqL.of (by rw [upd_ne hWD, upd_same])⟩, _, rfl, 1, rfl, tail_sl e5 fun p H2 g2 e6 => ?_⟩
      rw [e4] at e6
      refine ⟨p, _, rfl, SqT.of e6, fun r2 hr2 => ?_⟩
      have eW2 : H2 W = some (.lst (cs.map V.ref)) := g2 _ _ (by rw [upd_ne hWD, upd_same])
      have eD2 : H2 D = some (.lst (bs.map V.ref ++ [V.ref x])) := g2 _ _ upd_same
      have hWr : W ≠ r2 := ne_of_none eW2 hr2
      have hDr : D ≠ r2 := ne_of_none eD2 hr2
      have kle : ks.length ≤ 2 := by
        have := congrArg List.length e4
        rw [List.length_drop, List.length_map] at this
        omega
      have sle : cs.length ≤ 900 := by
        have h1 := rr.len
        rw [List.length_reverse] at h1
        have h2 : r.length ≤ (r.flatMap parts).length := by
          clear ep rW rr h1
          induction r with
          | nil => simp
          | cons u v ih =>
            rw [List.flatMap_cons, List.length_append, parts_eq u, List.length_cons, List.length_cons]
            omega
        have h3 := congrArg List.length ep
        rw [List.length_append, List.flatMap_cons, List.length_append] at h3
        omega
      refine ⟨W, r2, _, _, rfl, rfl, (by rw [upd_ne hWr]; exact eW2), upd_same, (by rw [List.length_map, List.length_reverse, List.length_map]; exact small (by omega)), ?_⟩
      have g3 : Same H1 (upd (upd H1 W (.lst (cs.map V.ref))) D (.lst (bs.map V.ref ++ [V.ref x]))) ∨ True := .inr trivial
      have keep : ∀ b o, H1 b = some o → b ≠ W → b ≠ D → (upd (upd H2 r2 (.lst (ks.map V.ref).reverse)) W (.lst (cs.map V.ref ++ (ks.map V.ref).reverse))) b = some o := fun b o e n1 n2 => by
        have e' : H2 b = some o := g2 _ _ (by rw [upd_ne n2, upd_ne n1]; exact e)
        rw [upd_ne n1, upd_ne (ne_of_none e' hr2)]
        exact e'
      have keepR : ∀ {t : Sh} {a : Addr}, Rep H1 a t → Rep (upd (upd H2 r2 (.lst (ks.map V.ref).reverse)) W (.lst (cs.map V.ref ++ (ks.map V.ref).reverse))) a t := fun {t a} r => r.but eW eD keep
      have hW0 : H W = none := hW
      refine ⟨⟨some (.ref x), cs ++ ks.reverse, bs ++ [x], kids s ++ r, fs ++ [s], rfl, fun b o e => ?_, ?_, ?_, ?_, ?_, ?_⟩, ?_⟩
      · exact keep b o (g b o e) (ne_of_none e hW0) (ne_of_none e hD0)
      · rw [upd_same, List.map_append, List.map_reverse]
      · rw [upd_ne hDW, upd_ne hDr, eD2, List.map_append]
        rfl
      · rw [List.reverse_append, List.reverse_reverse]
        exact (rk.mono keepR).append (rr.mono keepR)
      · exact (rD.mono keepR).snoc (keepR rx)
      · rw [← ep, List.flatMap_append, List.flatMap_cons, parts_eq s]
        simp
      · rw [upd_ne hDW, upd_ne hDr, eD2, eD]
        show (parts t).length - (bs.map V.ref ++ [V.ref x]).length < (parts t).length - (bs.map V.ref).length
        rw [List.length_append, List.length_map]
        show _ - (_ + 1) < _
        omega
  · obtain ⟨v, e, k2, hk, q2⟩ := h
    exact ⟨v, e, k2, hk, hq _ _ q2⟩
end
end K02

set_option Elab.async false
set_option linter.all false
set_option maxRecDepth 100000
set_option maxHeartbeats 2000000
namespace K02
open PySem PySem.Spec PyProof.Rows L2
/-- over a list from its end -/
theorem for_rev {K : PySem.W.Frag} {a : Addr} {xs : List V} {g : TG} {tb : TS} {D : Ends} {σ : L2.St} {H : Hp} (Pv : Nat → L2.St → Hp → Prop) (h0 : Pv 0 σ H) (hl : ∀ i σ H, i ≤ xs.length → Pv i σ H → SqL K H a xs)
    (hs : ∀ i x σ H, i < xs.length → xs[xs.length - 1 - i]? = some x → Pv i σ H → g x σ H fun σ2 H2 => tb { D with nx := Pv (i + 1), ct := Pv (i + 1), bk := D.nx } σ2 H2) (hd : ∀ σ H, Pv xs.length σ H → D.nx σ H) :
    ∃ W : Nat → Nat → L2.St → Hp → Prop, (∃ m, W 0 m σ H) ∧ ∀ i m σ H, W i m σ H →
      ((Itv K a xs.length).stop i H ∧ D.nx σ H) ∨ ((Itv K a xs.length).go i H ∧ ∃ N : L2.St → Hp → Prop, (∀ σ' H', N σ' H' → ∃ m', m' < m ∧ W (i + 1) m' σ' H') ∧ ∀ x H', (Itv K a xs.length).yld i H x H' → g x σ H' fun σ2 H2 => tb { D with nx := N, ct := N, bk := D.nx } σ2 H2) := by
  refine ⟨fun i m σ H => m = xs.length - i ∧ i ≤ xs.length ∧ Pv i σ H, ⟨xs.length, by simp, Nat.zero_le _, h0⟩, ?_⟩
  rintro i m σ H ⟨rfl, hi, p⟩
  have q := hl i σ H hi p
  by_cases hlt : i < xs.length
  · refine .inr ⟨⟨hlt, xs, xs[xs.length - 1 - i], q, by simp⟩, Pv (i + 1), fun σ' H' p' => ⟨xs.length - (i + 1), by omega, rfl, hlt, p'⟩, fun x H' y => ?_⟩
    obtain ⟨e, y⟩ := y
    subst e
    exact hs i x σ _ hlt (y xs q) p
  · have e : i = xs.length := by omega
    subst e
    exact .inl ⟨Nat.le_refl _, hd σ H p⟩
theorem chain_kids {s : Sh} {L fs : List Sh} (h : Chain (s :: L) fs) : ∃ gs, fs = s :: gs ∧ Chain L (kids s ++ gs) := by
  cases h with
  | leaf h => exact ⟨_, rfl, h⟩
  | word h => exact ⟨_, rfl, h⟩
  | tree h => exact ⟨_, rfl, h⟩
theorem chain_len {L fs : List Sh} (h : Chain L fs) : fs.length ≤ L.length := by
  induction h with
  | nil => exact Nat.le_refl _
  | leaf h ih => exact Nat.succ_le_succ ih
  | word h ih => simp only [List.length_cons] at ih ⊢; omega
  | tree h ih => simp only [List.length_cons] at ih ⊢; omega
theorem parts_mem : ∀ (t x : Sh), x ∈ parts t → x.count ≤ t.count ∧ (Ones t → Ones x)
  | .nil, x, h => by simp only [parts, List.mem_singleton] at h; subst h; exact ⟨Nat.le_refl _, id⟩
  | .word l t, x, h => by
    simp only [parts, List.mem_cons] at h
    rcases h with rfl | h
    · exact ⟨Nat.le_refl _, id⟩
    · have q := parts_mem t x h
      exact ⟨Nat.le_succ_of_le q.1, fun z => q.2 z.2⟩
  | .tree l a b, x, h => by
    simp only [parts, List.mem_cons, List.mem_append] at h
    rcases h with rfl | h | h
    · exact ⟨Nat.le_refl _, id⟩
    · have q := parts_mem a x h
      exact ⟨by have := q.1; simp only [Sh.count]; omega, fun z => q.2 z.2.1⟩
    · have q := parts_mem b x h
      exact ⟨by have := q.1; simp only [Sh.count]; omega, fun z => q.2 z.2.2⟩
theorem kids_text {s : Sh} (ho : Ones s) (hc : s.count ≤ 100) : ∀ x ∈ (kids s).map text, x.length ≤ 1000 := by
  intro x hx
  cases s with
  | nil => simp [kids] at hx
  | word l t =>
    simp only [kids, List.map_cons, List.map_nil, List.mem_singleton] at hx
    subst hx
    have := text_len t ho.2
    simp only [Sh.count] at hc
    omega
  | tree l a b =>
    simp only [kids, List.map_cons, List.map_nil, List.mem_cons, List.not_mem_nil, or_false] at hx
    simp only [Sh.count] at hc
    rcases hx with rfl | rfl
    · have := text_len a ho.2.1
      omega
    · have := text_len b ho.2.2
      omega
theorem drop_at {α : Type} {L : List α} {n : Nat} {x : α} (h : L[n]? = some x) : L.drop n = x :: L.drop (n + 1) := by
  obtain ⟨hn, e⟩ := List.getElem?_eq_some_iff.mp h
  rw [List.drop_eq_getElem_cons hn, e]
theorem But.same0 {D : Addr} {H H1 H2 : Hp} (hD : H D = none) (g : Same H H1) (b : But D H1 H2) : Same H H2 := fun c o e => b c o (ne_of_none e hD) (g c o e)
theorem Rep.but1 {H H' : Hp} {D : Addr} {xs : List V} (eD : H D = some (.lst xs)) (g : But D H H') {t : Sh} {a : Addr} (r : Rep H a t) : Rep H' a t := r.but eD eD fun b o e n _ => g b o n e
theorem last_str (s : Sh) (fs : List Sh) : (((s :: fs).map text).reverse.map V.str)[(((s :: fs).map text).reverse.map V.str).length - 1]? = some (.str (text s)) := by simp
theorem drop_str (s : Sh) (fs : List Sh) : (((s :: fs).map text).reverse.map V.str).dropLast = (fs.map text).reverse.map V.str := by simp
abbrev sFold : Stmt := top 12
abbrev sWrite : Stmt := top 13
abbrev sAbove : Stmt := top 14
theorem scFold : FnScope ["shape", "bottom", "above", "done", "now", "children", "_"] ["shape", "bottom", "above"] (defScope sFold) := ⟨rfl, rfl, rfl, by decide +kernel, rfl, by decide +kernel, by decide +kernel⟩
theorem scWrite : FnScope ["shape"] ["shape"] (defScope sWrite) := ⟨rfl, rfl, rfl, by decide +kernel, rfl, by decide +kernel, by decide +kernel⟩
theorem scAbove : FnScope ["label", "texts"] ["label", "texts"] (defScope sAbove) := ⟨rfl, rfl, rfl, by decide +kernel, rfl, by decide +kernel, by decide +kernel⟩
def spAbove : Sp := fun vs H Q _ => ∃ (l : Str) (c : Addr) (xs : List Str), vs = [.str l, .ref c] ∧ H c = some (.lst (xs.map V.str)) ∧ l.length ≤ 1000 ∧ (∀ x ∈ xs, x.length ≤ 1000) ∧
  ((∃ x, xs = [x] ∧ Q (.str (l ++ x)) H) ∨ ∃ x y, xs = [x, y] ∧ Q (.str (l ++ "(" ++ x ++ "," ++ y ++ ")")) H)
theorem six : (6000 : Nat) ≤ sizeLine := by rw [sizeLine_eq]; decide
theorem l1 : (Str.ofString "(").length = 1 := by decide +kernel
theorem l2 : (Str.ofString ",").length = 1 := by decide +kernel
theorem l3 : (Str.ofString ")").length = 1 := by decide +kernel
section
variable {P : Program} {w : World} {K : PySem.W.Frag} {mg : Str → Option Value} {base : Heap}
theorem ok_above {f : Addr} {fd : FuncData} {k : Nat} (F : Fun K "_text_above" "_text_above" sAbove f fd) (ml : mg "len" = none) : FnOk P w K mg base CX0 (k + 1) f fd ["label", "texts"] spAbove := by
  refine F.ok scAbove (fun vs H Q E h => ?_) (fun cdv A outer s H vs Q E hr h => ?_)
  · obtain ⟨l, c, xs, rfl, _⟩ := h
    rfl
  obtain ⟨l, c, xs, rfl, hc, hl, hxs, q⟩ := h
  refine ⟨_, pss_cons (ps_if (pt_cmpR op_eq (pe_callB call_len_seq (by rfl) ml PySem.boot_len (pa_cons (pv 1) pa_nil)) pe_int (nomark _))
      (pss_one (ps_ret (pe_op op_add_str (pv 0) (pe_ix ix_list (pv 1) pe_int (fun _ _ => rfl))))) pss_nil)
    (pss_one (ps_ret (pe_joined (.cons (pe_fmt (pv 0)) (.cons pe_str (.cons (pe_fmt (pe_ix ix_list (pv 1) pe_int (fun _ _ => rfl))) (.cons pe_str (.cons (pe_fmt (pe_ix ix_list (pv 1) pe_int (fun _ _ => rfl))) (.cons pe_str .nil))))))))), ?_⟩
  refine ⟨_, rfl, c, _, rfl, .inl (SqL.of hc), rfl, _, rfl, ?_⟩
  have six := six
  rcases q with ⟨x, rfl, q⟩ | ⟨x, y, rfl, q⟩
  · refine ifT rfl ?_
    have hx := hxs x (by simp)
    exact ⟨_, rfl, _, rfl, c, _, _, _, rfl, rfl, SqL.of hc, atI_nat (j := 0) rfl, l, x, rfl, rfl, by omega, q⟩
  · refine ifF (fun z => by cases z) ?_
    have hx := hxs x (by simp)
    have hy := hxs y (by simp)
    have e0 : Str.empty ++ l = l := Str.empty_append l
    refine ⟨_, rfl, .inl ⟨l, rfl, by omega, l, rfl, ?_⟩⟩
    rw [e0]
    refine ⟨by omega, _, rfl, by rw [Str.length_append, l1]; omega, _, rfl, c, _, _, _, rfl, rfl, SqL.of hc, atI_nat (j := 0) rfl, .inl ⟨x, rfl, by omega, x, rfl, by rw [Str.length_append, Str.length_append, l1]; omega, _, rfl, by rw [Str.length_append, Str.length_append, Str.length_append, l1, l2]; omega, ?_⟩⟩
    refine ⟨_, rfl, c, _, _, _, rfl, rfl, SqL.of hc, atI_nat (j := 1) rfl, .inl ⟨y, rfl, by omega, y, rfl, by rw [Str.length_append, Str.length_append, Str.length_append, Str.length_append, l1, l2]; omega, _, rfl, by rw [Str.length_append, Str.length_append, Str.length_append, Str.length_append, Str.length_append, l1, l2, l3]; omega, q⟩⟩
def spFold (g : Addr) : Sp := fun vs H Q _ => ∃ (a : Addr) (t : Sh), vs = [.ref a, .str ".", .ref g] ∧ Rep H a t ∧ t.count ≤ 100 ∧ Ones t ∧ ∀ H', Same H H' → Q (.str (text t)) H'
theorem ok_fold {f g p : Addr} {fd gd pd : FuncData} {k : Nat} (F : Fun K "folded" "folded" sFold f fd) (GA : FnOk P w K mg base CX0 k g gd ["label", "texts"] spAbove) (bA : Binds K gd ["label", "texts"] []) (kA : PySem.W.keepIn K (.ref g) = true)
    (GP : FnOk P w K mg base CX0 k p pd ["shape"] spParts) (bP : Binds K pd ["shape"] []) (kP : PySem.W.keepIn K (.ref p) = true) (mP : mg "_parts" = some (.ref p)) (mr : mg "reversed" = none) : FnOk P w K mg base CX0 (k + 1) f fd ["shape", "bottom", "above"] (spFold g) := by
  refine F.ok scFold (fun vs H Q E h => ?_) (fun cdv A outer s H vs Q E hr h => ?_)
  · obtain ⟨a, t, rfl, _⟩ := h
    rfl
  obtain ⟨a, t, rfl, hR, hc, ho, q⟩ := h
  have hu := hu_of hr
  refine ⟨_, pss_cons (ps_set (i := 3) scFold.nd rfl (Or.inr rfl) (pe_lst pa_nil))
    (pss_cons (ps_for PassesOwn.never rfl (pi_reversed (by rfl) mr (pa_cons (pe_call GP hr (by rfl) mP kP bP .nil pass0 (pa_cons (pv 0) pa_nil)) pa_nil)) (pg_name (i := 4) scFold.nd rfl (Or.inl rfl))
      (pss_one (ps_if (pt_truth (pv 4) (fun _ => rfl))
        (pss_cons (ps_setLc (i := 5) (own := [("_", 6)]) (g := gName 6) (tt := tYes) (te := tBM0 K "list" rPop (tVar 3)) rfl scFold.nd rfl rfl (sw_true rfl rfl rfl (by decide +kernel)) (pi_tup (pe_slice sl_tupA (pv 4) (po_some pe_int) po_none))
            (blkOk_by (own := [("_", 6)]) (N := ["shape", "bottom", "above", "done", "now", "children", "_"]) (sc := defScope sFold) (by decide +kernel)) (fun _ _ _ _ _ => pg_name (i := 6) scFold.nd rfl (Or.inl rfl)) (fun _ _ _ _ _ => pts_nil)
            (fun _ _ _ _ _ => pe_bm0 PySem.F.plainAttrs_list PySem.F.slot_list_pop PySem.F.type_list_pop mt_pop (pv 3)))
        (pss_one (ps_expr (pe_bm PySem.F.plainAttrs_list PySem.F.slot_list_append PySem.F.type_list_append mt_append (pv 3) (pa_cons (pe_callL (i := 2) GA hr rfl (Or.inl rfl) kA bA .nil pass0 (pa_cons (pe_ix ix_tup (pv 4) pe_int (fun _ _ => rfl)) (pa_cons (pv 5) pa_nil))) pa_nil)))))
        (pss_one (ps_expr (pe_bm PySem.F.plainAttrs_list PySem.F.slot_list_append PySem.F.type_list_append mt_append (pv 3) (pa_cons (pv 1) pa_nil)))))))
    (pss_one (ps_ret (pe_ix ix_list (pv 3) pe_int (fun _ _ => rfl))))), ?_⟩
  refine ⟨Nat.zero_le _, fun D hD => ?_⟩
  refine ⟨_, rfl, a, t, rfl, hR.same (same_new hD), hc, fun H1 ql as g1 hq eq rq => ?_⟩
  have hDq : ql ≠ D := fun z => by rw [z, upd_same] at hq; cases hq
  have eD1 : H1 D = some (.lst []) := g1 _ _ upd_same
  have gH : Same H H1 := (same_new hD).trans g1
  have hn : (as.map V.ref).length = (parts t).length := by rw [List.length_map, rq.len]
  have cap := parts_len t
  have all : Chain (parts t) [t] := by
    have z := chain_parts t .nil
    rwa [List.append_nil] at z
  refine ⟨ql, as.map V.ref, rfl, SqL.of eq, ?_⟩
  refine for_rev (xs := as.map V.ref) (fun i σ H2 => ∃ (y4 y5 y6 : Option V) (fs : List Sh), σ = [some (.ref a), some (.str "."), some (.ref g), some (.ref D), y4, y5, y6] ∧ Chain ((parts t).drop ((parts t).length - i)) fs ∧
      H2 D = some (.lst ((fs.map text).reverse.map V.str)) ∧ But D H1 H2) ⟨none, none, none, [], rfl, ?_, eD1, But.refl _ _⟩ (fun i σ H2 hi p => ?_) (fun i x σ H2 hi hx p => ?_) fun σ H2 p => ?_
  · rw [Nat.sub_zero, List.drop_length]
    exact .nil
  · obtain ⟨y4, y5, y6, fs, rfl, hch, e, b⟩ := p
    exact SqL.of (b _ _ hDq eq)
  · obtain ⟨y4, y5, y6, fs, rfl, hch, e, b⟩ := p
    rw [hn] at hi hx
    rw [List.getElem?_map] at hx
    obtain ⟨c, hc1, hc2⟩ : ∃ c, as[(parts t).length - 1 - i]? = some c ∧ x = .ref c := by
      cases z : as[(parts t).length - 1 - i]? with
      | none => rw [z] at hx; cases hx
      | some c => rw [z] at hx; exact ⟨c, rfl, (Option.some.inj hx).symm⟩
    subst hc2
    obtain ⟨s', hs', rc⟩ := rq.get' hc1
    obtain ⟨fs', hch'⟩ := chain_drop all ((parts t).length - (i + 1))
    have e1 : (parts t).length - 1 - i = (parts t).length - (i + 1) := by omega
    rw [e1] at hs'
    have e2 : (parts t).drop ((parts t).length - (i + 1)) = s' :: (parts t).drop ((parts t).length - i) := by
      rw [drop_at hs', show (parts t).length - (i + 1) + 1 = (parts t).length - i by omega]
    have hch2 := hch'
    rw [e2] at hch2
    obtain ⟨gs, e3, hk⟩ := chain_kids hch2
    subst e3
    have e4 := chain_one hch hk
    subst e4
    have hm := parts_mem t s' (List.mem_of_getElem? hs')
    have fl := chain_len hch
    rw [List.length_drop] at fl
    have rc2 := rc.but1 eD1 b
    obtain ⟨xs, cs, ex, ed, rk, hx3, hnil⟩ := rc2.kids
    have hcD : c ≠ D := fun z => by rw [z, e] at ex; cases ex
    refine ⟨_, rfl, _, .inr (.inl ⟨xs, SqT.of ex, rfl⟩), ?_⟩
    have eL : ((((kids s' ++ gs).map text).reverse.map V.str)).length ≤ 900 := by
      simp only [List.length_map, List.length_reverse]
      omega
    by_cases hcs : cs = []
    · obtain ⟨z1, z2⟩ := hnil hcs
      subst z1 z2
      refine iteF' ?_
      refine ⟨_, rfl, .inl ⟨rfl, _, SqL.of e⟩, _, rfl, D, _, _, rfl, rfl, e, small' (by omega), ?_⟩
      refine ⟨_, y5, y6, .nil :: gs, rfl, hch', ?_, b.upd⟩
      rw [upd_same]
      simp [kids, text]
    · have hne : (!xs.isEmpty) = true := by
        cases xs with
        | nil =>
          have := congrArg List.length ed
          simp at this
          exact absurd (List.length_eq_zero_iff.mp this.symm) hcs
        | cons _ _ => rfl
      rw [hne]
      refine iteT' ?_
      refine ⟨_, rfl, 1, rfl, tail_sl ex fun p1 H3 g3 e3 => ?_⟩
      rw [ed] at e3
      refine ⟨p1, rfl, ⟨_, SqT.of e3⟩, fun C hC => ?_⟩
      have hDC : D ≠ C := ne_of_none (g3 _ _ e) hC
      have hpC : p1 ≠ C := ne_of_none e3 hC
      have hkl : cs.length = (kids s').length := rk.len
      refine lc_tup (xs := cs.map V.ref) (fun j H4 => ∃ rest, (kids s').drop j = rest ∧ H4 C = some (.lst (((kids s').take j).map (fun s => V.str (text s)))) ∧ H4 D = some (.lst (((rest ++ gs).map text).reverse.map V.str)) ∧ ∀ b' o, b' ≠ C → b' ≠ D → H3 b' = some o → H4 b' = some o) ⟨kids s', rfl, ?_, ?_, ?_⟩ (fun j H4 hj pv => ?_) (fun j v H4 hv pv => ?_) fun H4 pv => ?_
      · rw [upd_same]
        rfl
      · rw [upd_ne hDC]
        exact g3 _ _ e
      · intro b' o n1 n2 z
        rw [upd_ne n1]
        exact z
      · obtain ⟨rest, _, _, _, k4⟩ := pv
        exact SqT.of (k4 _ _ hpC (fun z => by rw [z, g3 _ _ e] at e3; cases e3) e3)
      · obtain ⟨rest, er, eC, eD4, k4⟩ := pv
        have hj : j < (kids s').length := by
          have := (List.getElem?_eq_some_iff.mp hv).1
          rw [List.length_map] at this
          omega
        have er2 : rest = (kids s')[j] :: (kids s').drop (j + 1) := by rw [← er, List.drop_eq_getElem_cons hj]
        subst er2
        refine ⟨rfl, yes_turn ?_⟩
        refine ⟨_, rfl, .inl ⟨rfl, _, SqL.of eD4⟩, D, _, _, rfl, rfl, eD4, last_str _ _, ?_⟩
        have hk3 : (kids s').length ≤ 3 := by
          have := congrArg List.length ed
          rw [List.length_drop, List.length_map] at this
          omega
        refine ⟨_, (by rw [upd_ne hDC.symm]; exact eC), (by rw [List.length_map, List.length_take]; exact small' (by omega)), (kids s').drop (j + 1), rfl, ?_, ?_, ?_⟩
        · rw [upd_same, List.take_succ_eq_append_getElem hj, List.map_append]
          rfl
        · rw [upd_ne hDC, upd_same, List.cons_append, drop_str]
        · intro b' o n1 n2 z
          rw [upd_ne n1, upd_ne n2]
          exact k4 b' o n1 n2 z
      · obtain ⟨rest, er, eC, eD4, k4⟩ := pv
        rw [List.length_map, hkl, List.drop_length] at er
        rw [List.length_map, hkl, List.take_length] at eC
        subst er
        rw [List.nil_append] at eD4
        have hcC : c ≠ C := ne_of_none (g3 _ _ ex) hC
        have ex4 : H4 c = some (.tup xs) := k4 _ _ hcC hcD (g3 _ _ ex)
        have hHC : H1 C = none ∨ True := .inr trivial
        have b4 : But D H1 H4 := fun b' o n z => k4 b' o (ne_of_none (g3 _ _ (b b' o n z)) hC) n (g3 _ _ (b b' o n z))
        refine ⟨_, rfl, .inl ⟨rfl, _, SqL.of eD4⟩, rfl, _, rfl, ?_⟩
        have hones := hm.2 ho
        have hcnt : s'.count ≤ 100 := Nat.le_trans hm.1 hc
        have hkt := kids_text hones hcnt
        have eC' : H4 C = some (.lst (((kids s').map text).map V.str)) := by rw [eC, List.map_map]; rfl
        have gl : ((gs.map text).reverse.map V.str).length < 1000 := by
          simp only [List.length_map, List.length_reverse, List.length_append] at eL ⊢
          omega
        have fin : ∀ z : Str, z = text s' → (upd H4 D (.lst (((gs.map text).reverse.map V.str) ++ [V.str z]))) D = some (.lst (((s' :: gs).map text).reverse.map V.str)) := fun z hz => by
          rw [upd_same, hz]
          simp
        cases rc2 with
        | nil h' =>
          rw [ex] at h'
          cases h'
          exact absurd (by simpa using ed) hcs
        | @word _ c1 l u h' r' =>
          rw [ex] at h'
          cases h'
          refine ⟨c, _, 0, _, rfl, rfl, SqT.of ex4, rfl, _, rfl, l, C, _, rfl, eC', by have := hones.1.1; omega, hkt, .inl ⟨text u, rfl, ?_⟩⟩
          refine ⟨D, _, _, rfl, rfl, eD4, small' gl, _, _, _, _ :: gs, rfl, hch', fin _ rfl, b4.upd⟩
        | @tree _ c1 c2 l u1 u2 h' r1 r2 =>
          rw [ex] at h'
          cases h'
          refine ⟨c, _, 0, _, rfl, rfl, SqT.of ex4, rfl, _, rfl, l, C, _, rfl, eC', by have := hones.1.1; omega, hkt, .inr ⟨text u1, text u2, rfl, ?_⟩⟩
          refine ⟨D, _, _, rfl, rfl, eD4, small' gl, _, _, _, _ :: gs, rfl, hch', fin _ rfl, b4.upd⟩
  · obtain ⟨y4, y5, y6, fs, rfl, hch, e, b⟩ := p
    rw [hn, Nat.sub_self, List.drop_zero] at hch
    have z := chain_one hch all
    subst z
    exact ⟨_, rfl, D, _, 0, _, rfl, rfl, SqL.of e, rfl, q _ (b.same0 hD gH)⟩
end
end K02

set_option Elab.async false
set_option linter.all false
set_option maxRecDepth 100000
set_option maxHeartbeats 2000000
namespace K02
open PySem PySem.Spec PyProof.Rows L2
def spWrite : Sp := fun vs H Q _ => ∃ (a : Addr) (t : Sh), vs = [.ref a] ∧ Rep H a t ∧ t.count ≤ 100 ∧ Ones t ∧ ∀ H', Same H H' → Q (.str (text t)) H'
section
variable {P : Program} {w : World} {K : PySem.W.Frag} {mg : Str → Option Value} {base : Heap}
theorem ok_write {f g p : Addr} {fd pd : FuncData} {k : Nat} (F : Fun K "write_shape" "write_shape" sWrite f fd) (GF : FnOk P w K mg base CX0 k p pd ["shape", "bottom", "above"] (spFold g)) (bF : Binds K pd ["shape", "bottom", "above"] []) (kF : PySem.W.keepIn K (.ref p) = true) (mF : mg "folded" = some (.ref p))
    (mA : mg "_text_above" = some (.ref g)) : FnOk P w K mg base CX0 (k + 1) f fd ["shape"] spWrite := by
  refine F.ok scWrite (fun vs H Q E h => ?_) (fun cdv A outer s H vs Q E hr h => ?_)
  · obtain ⟨a, t, rfl, _⟩ := h
    rfl
  obtain ⟨a, t, rfl, hR, hc, ho, q⟩ := h
  refine ⟨_, pss_one (ps_ret (pe_call GF hr (by rfl) mF kF bF .nil pass0 (pa_cons (pv 0) (pa_cons pe_str (pa_cons (pe_glob (by rfl) mA (v := .ref g) rfl) pa_nil))))), ?_⟩
  exact ⟨_, rfl, a, t, rfl, hR, hc, ho, q⟩
end
end K02

set_option Elab.async false
set_option linter.all false
set_option maxRecDepth 100000
set_option maxHeartbeats 2000000
namespace K02
open PySem PySem.Spec PyProof.Rows L2 XS
def LA : List Str := ["a"]
def LB : List Str := ["a", "b"]
def LC : List Str := ["b", "d", "z"]
def LS : List (List Str) := [LA, LB, LC]
def LT : List Str := ["a", "b", "d", "z"]
def KindAt (H : Hp) (k : Addr) (two : Bool) (ls : List Str) : Prop := ∃ lab, H k = some (.tup [.int (if two then 2 else 1), .ref lab]) ∧ H lab = some (.tup (ls.map V.str)) ∧ ls ∈ LS
theorem KindAt.same {H H' : Hp} {k : Addr} {two : Bool} {ls : List Str} (g : Same H H') (h : KindAt H k two ls) : KindAt H' k two ls := by
  obtain ⟨lab, a, b, c⟩ := h
  exact ⟨lab, g _ _ a, g _ _ b, c⟩
theorem ls_cases {ls : List Str} (h : ls ∈ LS) : ls = LA ∨ ls = LB ∨ ls = LC := by simpa [LS] using h
theorem ls_letters {ls : List Str} (h : ls ∈ LS) : ∀ x ∈ ls, x ∈ LT := by
  rcases ls_cases h with rfl | rfl | rfl <;> decide +kernel
theorem ls_sorted {ls ys : List Str} (h : ls ∈ LS) (p : ys.Perm (once ls)) (s : sortedS ys = true) : ys = ls := by
  have hm : ∀ y ∈ ys, y ∈ ls := fun y hy => once_mem.mp (p.mem_iff.mp hy)
  have hn : ys.Nodup := p.nodup_iff.mpr (once_nodup ls [] List.nodup_nil)
  have hl : ys.length = (once ls).length := p.length_eq
  rcases ls_cases h with rfl | rfl | rfl
  · rw [show (once LA).length = 1 by decide +kernel] at hl
    match ys, hl with
    | [x], _ =>
      have := hm x (by simp)
      simp only [LA, List.mem_singleton] at this
      rw [this]
      rfl
  · rw [show (once LB).length = 2 by decide +kernel] at hl
    match ys, hl with
    | [x, y], _ =>
      have h1 := hm x (by simp)
      have h2 := hm y (by simp)
      simp only [LB, List.mem_cons, List.not_mem_nil, or_false] at h1 h2
      rcases h1 with rfl | rfl <;> rcases h2 with rfl | rfl <;> first | rfl | exact absurd s (by decide +kernel) | exact absurd hn (by decide +kernel)
  · rw [show (once LC).length = 3 by decide +kernel] at hl
    match ys, hl with
    | [x, y, z], _ =>
      have h1 := hm x (by simp)
      have h2 := hm y (by simp)
      have h3 := hm z (by simp)
      simp only [LC, List.mem_cons, List.not_mem_nil, or_false] at h1 h2 h3
      rcases h1 with rfl | rfl | rfl <;> rcases h2 with rfl | rfl | rfl <;> rcases h3 with rfl | rfl | rfl <;> first | rfl | exact absurd s (by decide +kernel) | exact absurd hn (by decide +kernel)
abbrev sWhole : Stmt := top 7
abbrev sIsKind : Stmt := top 8
abbrev sLetter : Stmt := top 9
abbrev sCheck : Stmt := top 10
theorem scWhole : FnScope ["value"] ["value"] (defScope sWhole) := ⟨rfl, rfl, rfl, by decide +kernel, rfl, by decide +kernel, by decide +kernel⟩
theorem scIsKind : FnScope ["value", "ways", "labels", "label"] ["value"] (defScope sIsKind) := ⟨rfl, rfl, rfl, by decide +kernel, rfl, by decide +kernel, by decide +kernel⟩
theorem scLetter : FnScope ["value"] ["value"] (defScope sLetter) := ⟨rfl, rfl, rfl, by decide +kernel, rfl, by decide +kernel, by decide +kernel⟩
theorem scCheck : FnScope ["kind"] ["kind"] (defScope sCheck) := ⟨rfl, rfl, rfl, by decide +kernel, rfl, by decide +kernel, by decide +kernel⟩
def spWhole : Sp := fun vs H Q _ => ∃ z : Int, vs = [.int z] ∧ Q (.bl true) H
def spLetter : Sp := fun vs H Q _ => ∃ x : Str, vs = [.str x] ∧ x ∈ LT ∧ Q (.bl true) H
def spIsKind : Sp := fun vs H Q _ => ∃ (k : Addr) (two : Bool) (ls : List Str), vs = [.ref k] ∧ KindAt H k two ls ∧ ∀ H', Same H H' → Q (.bl true) H'
def spCheck : Sp := fun vs H Q _ => ∃ (k : Addr) (two : Bool) (ls : List Str), vs = [.ref k] ∧ KindAt H k two ls ∧ ∀ H', Same H H' → Q .non H'
theorem lt_len : ∀ x ∈ LT, x.length = 1 := by decide +kernel
theorem lt_lo : ∀ x ∈ LT, (!decide (x.cps.toList < (Str.ofString "a").cps.toList)) = true := by decide +kernel
theorem lt_hi : ∀ x ∈ LT, (!decide ((Str.ofString "z").cps.toList < x.cps.toList)) = true := by decide +kernel
section
variable {P : Program} {w : World} {K : PySem.W.Frag} {mg : Str → Option Value} {base : Heap}
theorem ok_whole {f : Addr} {fd : FuncData} {k : Nat} (F : Fun K "is_whole" "is_whole" sWhole f fd) (mi : mg "isinstance" = none) (mb : mg "bool" = none) (mn : mg "int" = none) : FnOk P w K mg base CX0 (k + 1) f fd ["value"] spWhole := by
  refine F.ok scWhole (fun vs H Q E h => ?_) (fun cdv A outer s H vs Q E hr h => ?_)
  · obtain ⟨z, rfl, _⟩ := h
    rfl
  obtain ⟨z, rfl, q⟩ := h
  refine ⟨_, pss_one (ps_ret (pe_and (pe_isi (pv 0) mi mn rfl) (pe_one (pe_not (pe_isi (pv 0) mi mb rfl))))), ?_⟩
  refine ⟨_, rfl, isi (ty_int z) (by decide +kernel : kitB "int" "int" = some true) ⟨_, rfl, iteT' ?_⟩⟩
  exact ⟨_, rfl, isi (ty_int z) (by decide +kernel : kitB "int" "bool" = some false) ⟨_, rfl, q⟩⟩
theorem ok_letter {f : Addr} {fd : FuncData} {k : Nat} (F : Fun K "_is_letter" "_is_letter" sLetter f fd) (mi : mg "isinstance" = none) (ms : mg "str" = none) (ml : mg "len" = none) : FnOk P w K mg base CX0 (k + 1) f fd ["value"] spLetter := by
  refine F.ok scLetter (fun vs H Q E h => ?_) (fun cdv A outer s H vs Q E hr h => ?_)
  · obtain ⟨z, rfl, _⟩ := h
    rfl
  obtain ⟨x, rfl, hx, q⟩ := h
  refine ⟨_, pss_one (ps_ret (pe_and (pe_isi (pv 0) mi ms rfl) (pe_and (pe_cmpR op_eq (pe_callB call_len_str (by rfl) ml PySem.boot_len (pa_cons (pv 0) pa_nil)) pe_int (nomark _)) (pe_one (pe_chain op_le_str op_le_str pe_str (pv 0) pe_str))))), ?_⟩
  refine ⟨_, rfl, isi (ty_str x) (by decide +kernel : kitB "str" "str" = some true) ⟨_, rfl, iteT' ?_⟩⟩
  have e1 := lt_len x hx
  refine ⟨_, rfl, x, rfl, by rw [e1]; exact small (by decide), rfl, ?_⟩
  rw [e1]
  refine ⟨_, rfl, ifT rfl ?_⟩
  refine ⟨_, rfl, _, _, rfl, rfl, _, rfl, ?_⟩
  rw [lt_lo x hx]
  refine iteT' ⟨_, _, rfl, rfl, ?_⟩
  rw [lt_hi x hx]
  exact q
theorem ok_isKind {f g l : Addr} {fd gd ld : FuncData} {k : Nat} (F : Fun K "is_kind" "is_kind" sIsKind f fd) (GW : FnOk P w K mg base CX0 k g gd ["value"] spWhole) (bW : Binds K gd ["value"] []) (kW : PySem.W.keepIn K (.ref g) = true) (mW : mg "is_whole" = some (.ref g))
    (GL : FnOk P w K mg base CX0 k l ld ["value"] spLetter) (bL : Binds K ld ["value"] []) (kL : PySem.W.keepIn K (.ref l) = true) (mL : mg "_is_letter" = some (.ref l)) (mi : mg "isinstance" = none) (mt : mg "tuple" = none) (ml : mg "len" = none) (ma : mg "all" = none) (mli : mg "list" = none) (mso : mg "sorted" = none) (mse : mg "set" = none)
    {tM : Tok} (mM : mg "MOST_LABELS" = some (.int 3 tM)) : FnOk P w K mg base CX0 (k + 1) f fd ["value"] spIsKind := by
  refine F.ok scIsKind (fun vs H Q E h => ?_) (fun cdv A outer s H vs Q E hr h => ?_)
  · obtain ⟨a, two, ls, rfl, _⟩ := h
    rfl
  obtain ⟨a, two, ls, rfl, hK, q⟩ := h
  refine ⟨_, pss_cons (ps_if (PW.pt (pw_or (pt_not (pt_val (pe_isi (pv 0) mi mt rfl))) (pw_or1 (pt_cmpR op_ne (pe_callB call_len_seq (by rfl) ml PySem.boot_len (pa_cons (pv 0) pa_nil)) pe_int (nomark _))))) pss_never pss_nil)
    (pss_cons (ps_asg (pv 0) (pg_tup (by rfl) (pgs_cons (pg_name (i := 1) scIsKind.nd rfl (.inl rfl)) (pgs_cons (pg_name (i := 2) scIsKind.nd rfl (.inl rfl)) pgs_nil))))
    (pss_cons (ps_if (PW.pt (pw_or (pt_not (pt_val (pe_call GW hr (by rfl) mW kW bW .nil pass0 (pa_cons (pv 1) pa_nil)))) (pw_or1 (pt_cmpR op_notIn_seq (pv 1) (pe_tup (pa_cons pe_int (pa_cons pe_int pa_nil))) (by with_unfolding_all rfl))))) pss_never pss_nil)
    (pss_cons (ps_if (PW.pt (pw_or (pt_not (pt_val (pe_isi (pv 2) mi mt rfl))) (pw_or1 (pt_not (pt_chain op_le op_le pe_int (pe_callB call_len_seq (by rfl) ml PySem.boot_len (pa_cons (pv 2) pa_nil)) (pe_glob (by rfl) mM (v := .int 3) ⟨_, rfl⟩)))))) pss_never pss_nil)
    (pss_cons (ps_if (pt_not (pt_val (pe_callB (cr_all rfl) (by rfl) ma (by decide +kernel) (pa_cons (pe_lc (own := [("label", 3)]) (g := gName 3) (tt := tYes) (te := tCall spLetter [] E0 (tCons (tVar 3) tNil)) rfl scIsKind.nd (pi_tup (pv 2))
        (blkOk_by (own := [("label", 3)]) (N := ["value", "ways", "labels", "label"]) (sc := defScope sIsKind) (by decide +kernel)) (fun _ _ _ _ _ => pg_name (i := 3) scIsKind.nd rfl (Or.inl rfl)) (fun _ _ _ _ _ => pts_nil)
        (fun _ _ _ _ _ => pe_call GL hr (by rfl) mL kL bL .nil pass0 (pa_cons (pv 3) pa_nil))) pa_nil)))) pss_never pss_nil)
    (pss_one (ps_ret (pe_cmpR (op_eqD hr.units) (pe_callTy call_list_of (by rfl) mli (by decide +kernel) (pa_cons (pv 2) pa_nil)) (pe_callB (cr_sortedX rfl) (by rfl) mso (by decide +kernel) (pa_cons (pe_callTy (cr_setX rfl) (by rfl) mse (by decide +kernel) (pa_cons (pv 2) pa_nil)) pa_nil)) (nomark _)))))))), ?_⟩
  obtain ⟨lab, ek, el, hls⟩ := hK
  have hlen : 1 ≤ ls.length ∧ ls.length ≤ 3 := by
    rcases ls_cases hls with rfl | rfl | rfl <;> decide +kernel
  refine ⟨_, rfl, isi (ty_tup (SqT.of ek)) (by decide +kernel : kitB "tuple" "tuple" = some true) ⟨_, rfl, iteNT ?_⟩⟩
  refine ⟨_, rfl, a, _, rfl, .inr (SqT.of ek), rfl, _, rfl, ?_⟩
  refine iteNS rfl ?_
  refine ⟨_, rfl, a, _, rfl, SqT.of ek, rfl, _, _, rfl, _, _, rfl, rfl, ?_⟩
  refine ⟨_, rfl, _, rfl, true, rfl, iteNT ?_⟩
  refine ⟨_, rfl, (by show 2 ≤ sizeLine; exact small (by decide)), fun t ht => ?_⟩
  have g1 : Same H (upd H t (.tup [.int 1, .int 2])) := same_new ht
  refine ⟨t, [.int 1, .int 2], rfl, .inr (SqT.of upd_same), rfl, rfl, false, ?_, iteF' ?_⟩
  · cases two <;> rfl
  have el1 := g1 _ _ el
  refine ⟨_, rfl, isi (ty_tup (SqT.of el1)) (by decide +kernel : kitB "tuple" "tuple" = some true) ⟨_, rfl, iteNT ?_⟩⟩
  refine ⟨_, rfl, lab, _, rfl, .inr (SqT.of el1), _, _, rfl, rfl, true, ?_, iteT' ⟨_, _, rfl, rfl, true, ?_, iteNT ?_⟩⟩
  · rw [List.length_map]
    exact congrArg V.bl (decide_eq_true (by omega))
  · rw [List.length_map]
    exact congrArg V.bl (decide_eq_true (by omega))
  refine ⟨_, rfl, lab, rfl, ⟨_, SqT.of el1⟩, fun C hC => ?_⟩
  have g2 : Same H (upd (upd H t (.tup [.int 1, .int 2])) C (.lst [])) := g1.trans (same_new hC)
  have hCn : H C = none := g1.free hC
  refine lc_tup (xs := ls.map V.str) (fun i H2 => Same H H2 ∧ H2 C = some (.lst ((List.replicate i true).map V.bl))) ⟨g2, upd_same⟩ (fun i H2 hi p => SqT.of (p.1 _ _ el)) (fun i x H2 hx p => ?_) fun H2 p => ?_
  · have hi := (List.getElem?_eq_some_iff.mp hx).1
    rw [List.length_map] at hi
    rw [List.getElem?_map, List.getElem?_eq_getElem hi] at hx
    obtain rfl : V.str ls[i] = x := Option.some.inj hx
    refine ⟨rfl, yes_turn ?_⟩
    refine ⟨_, rfl, _, rfl, ls_letters hls _ (List.getElem_mem hi), _, p.2, (by rw [List.length_map, List.length_replicate]; exact small' (by omega)), same_fresh hCn p.1, ?_⟩
    rw [upd_same, List.replicate_succ', List.map_append]
    rfl
  · refine ⟨C, _, rfl, SqL.of p.2, true, ?_, iteNT ?_⟩
    · exact congrArg V.bl (by simp)
    refine ⟨_, rfl, lab, _, rfl, .inr (SqT.of (p.1 _ _ el)), fun L hL => ?_⟩
    have g3 : Same H (upd H2 L (.lst (ls.map V.str))) := p.1.trans (same_new hL)
    refine ⟨_, rfl, lab, ls, rfl, SqT.of (g3 _ _ el), by omega, fun S hS => ?_⟩
    have hLS : L ≠ S := ne_of_none upd_same hS
    refine ⟨S, _, rfl, upd_same, ?_, fun ys p2 hp hs hn => ?_⟩
    · rcases ls_cases hls with rfl | rfl | rfl <;> decide +kernel
    obtain rfl := ls_sorted hls hp hs
    have hLp : L ≠ p2 := ne_of_none (show _ = some (HO.lst (ys.map V.str)) by rw [upd_ne hLS, upd_same]) hn
    have dp : ∀ (H3 : Hp) (xs : List Str), DpAll K H3 (xs.map V.str) (xs.map PyData.str) := fun H3 xs => by
      induction xs with
      | nil => exact .nil
      | cons x r ih => exact .cons (.str x) ih
    refine ⟨.list (ys.map PyData.str), .list (ys.map PyData.str), .lst (SqL.of (by rw [upd_ne hLp, upd_ne hLS, upd_same])) (dp _ _), .lst (SqL.of upd_same) (dp _ _), ?_, ?_, ?_⟩
    · rcases ls_cases hls with rfl | rfl | rfl <;> decide +kernel
    · rcases ls_cases hls with rfl | rfl | rfl <;> decide +kernel
    · have e : PyData.eqv (.list (ys.map PyData.str)) (.list (ys.map PyData.str)) = true := by
        rcases ls_cases hls with rfl | rfl | rfl <;> decide +kernel
      rw [e]
      exact q _ ((g3.trans (same_new hS)).trans (same_new hn))
theorem ok_check {f g : Addr} {fd gd : FuncData} {k : Nat} (F : Fun K "check_kind" "check_kind" sCheck f fd) (G : FnOk P w K mg base CX0 k g gd ["value"] spIsKind) (bG : Binds K gd ["value"] []) (kG : PySem.W.keepIn K (.ref g) = true) (mG : mg "is_kind" = some (.ref g)) : FnOk P w K mg base CX0 (k + 1) f fd ["kind"] spCheck := by
  refine F.ok scCheck (fun vs H Q E h => ?_) (fun cdv A outer s H vs Q E hr h => ?_)
  · obtain ⟨a, two, ls, rfl, _⟩ := h
    rfl
  obtain ⟨a, two, ls, rfl, hK, q⟩ := h
  refine ⟨_, pss_one (ps_if (pt_not (pt_val (pe_call G hr (by rfl) mG kG bG .nil pass0 (pa_cons (pv 0) pa_nil)))) pss_never pss_nil), ?_⟩
  exact ⟨_, rfl, a, two, ls, rfl, hK, fun H' g1 => ⟨true, rfl, iteNT (q H' g1)⟩⟩
end
end K02

set_option Elab.async false
set_option linter.all false
set_option maxRecDepth 100000
set_option maxHeartbeats 2000000
namespace K02
open PySem PySem.Spec PyProof.Rows L2
/-! ### numbers and lists of shapes, size by size -/
def below (two : Bool) (ns : List Nat) : Nat := if two then ((ns.zip ns.reverse).map fun p => p.1 * p.2).sum else ns.getLast?.getD 1
def nums (two : Bool) (k : Nat) : Nat → List Nat
  | 0 => [1]
  | n + 1 => nums two k n ++ [k * below two (nums two k n)]
theorem nums_len (two : Bool) (k : Nat) : ∀ n, (nums two k n).length = n + 1
  | 0 => rfl
  | n + 1 => by rw [nums, List.length_append, nums_len two k n]; rfl
theorem nums_take (two : Bool) (k : Nat) (n : Nat) : ∀ m, n ≤ m → (nums two k m).take (n + 1) = nums two k n := by
  intro m h
  induction h with
  | refl => rw [List.take_of_length_le]; rw [nums_len]; omega
  | @step m h ih =>
    rw [nums, List.take_append_of_le_length (by rw [nums_len]; exact Nat.succ_le_succ h), ih]
/-- the number of shapes of size n -/
def num (two : Bool) (k n : Nat) : Nat := (nums two k n).getD n 0
theorem nums_get (two : Bool) (k : Nat) {n i : Nat} (h : i ≤ n) : (nums two k n)[i]? = some (num two k i) := by
  have e := nums_take two k i n h
  have e2 : (nums two k n)[i]? = ((nums two k n).take (i + 1))[i]? := by rw [List.getElem?_take_of_lt (by omega)]
  rw [e2, e]
  unfold num
  rw [List.getD_eq_getElem?_getD]
  cases z : (nums two k i)[i]? with
  | none =>
    rw [List.getElem?_eq_none_iff, nums_len] at z
    omega
  | some v => rfl
theorem num_succ (two : Bool) (k n : Nat) : num two k (n + 1) = k * below two (nums two k n) := by
  unfold num
  rw [nums, List.getD_eq_getElem?_getD, List.getElem?_append_right (by rw [nums_len]; exact Nat.le_refl _), nums_len, Nat.sub_self]
  rfl
theorem num_zero (two : Bool) (k : Nat) : num two k 0 = 1 := rfl
def riseN : List Nat → Bool
  | [] => true
  | [_] => true
  | a :: b :: r => decide (a ≤ b) && riseN (b :: r)
theorem rise_facts : ∀ two : Bool, ∀ k ∈ [1, 2, 3], riseN (nums two k 30) = true ∧ (nums two k 30).all (fun x => decide (x < 2 ^ 200)) = true := by decide +kernel
theorem riseN_get : ∀ {l : List Nat}, riseN l = true → ∀ {i a b : Nat}, l[i]? = some a → l[i + 1]? = some b → a ≤ b
  | [], _, i, a, b, h, _ => by simp at h
  | [x], _, i, a, b, _, h => by simp at h
  | x :: y :: r, h, 0, a, b, h1, h2 => by
    simp only [riseN, Bool.and_eq_true, decide_eq_true_eq] at h
    simp only [List.getElem?_cons_zero, Option.some.injEq, List.getElem?_cons_succ, Nat.zero_add] at h1 h2
    omega
  | x :: y :: r, h, i + 1, a, b, h1, h2 => by
    simp only [riseN, Bool.and_eq_true] at h
    exact riseN_get (l := y :: r) h.2 (i := i) (by simpa using h1) (by simpa using h2)
theorem num_step {two : Bool} {k n : Nat} (hk : k ∈ [1, 2, 3]) (hn : n < 30) : num two k n ≤ num two k (n + 1) :=
  riseN_get (rise_facts two k hk).1 (nums_get two k (n := 30) (by omega)) (nums_get two k (n := 30) (by omega))
theorem num_mono {two : Bool} {k n m : Nat} (hk : k ∈ [1, 2, 3]) (h : n ≤ m) (hm : m ≤ 30) : num two k n ≤ num two k m := by
  induction h with
  | refl => exact Nat.le_refl _
  | @step m h ih => exact Nat.le_trans (ih (by omega)) (num_step hk (by omega))
theorem num_big {two : Bool} {k n : Nat} (hk : k ∈ [1, 2, 3]) (hn : n ≤ 30) : num two k n < 2 ^ 200 := by
  have h := (rise_facts two k hk).2
  rw [List.all_eq_true] at h
  exact of_decide_eq_true (h _ (List.mem_of_getElem? (nums_get two k (n := 30) hn)))
def step (two : Bool) (ls : List Str) (tb : List (List Sh)) : List Sh :=
  if two then ls.flatMap fun l => (tb.zip tb.reverse).flatMap fun p => p.1.flatMap fun a => p.2.map fun b => Sh.tree l a b
  else ls.flatMap fun l => (tb.getLast?.getD []).map fun c => Sh.word l c
def table (two : Bool) (ls : List Str) : Nat → List (List Sh)
  | 0 => [[.nil]]
  | n + 1 => table two ls n ++ [step two ls (table two ls n)]
theorem table_len (two : Bool) (ls : List Str) : ∀ n, (table two ls n).length = n + 1
  | 0 => rfl
  | n + 1 => by rw [table, List.length_append, table_len two ls n]; rfl
theorem len_flat {α β : Type} (f : α → List β) (c : Nat) : ∀ l : List α, (∀ x ∈ l, (f x).length = c) → (l.flatMap f).length = l.length * c
  | [], _ => by simp
  | x :: r, h => by
    rw [List.flatMap_cons, List.length_append, h x (by simp), len_flat f c r (fun y hy => h y (by simp [hy])), List.length_cons, Nat.succ_mul, Nat.add_comm]
theorem len_zip (l : Str) : ∀ (xs ys : List (List Sh)), ((xs.zip ys).flatMap fun p => p.1.flatMap fun a => p.2.map fun b => Sh.tree l a b).length = (((xs.map List.length).zip (ys.map List.length)).map fun p => p.1 * p.2).sum
  | [], _ => by simp
  | _ :: _, [] => by simp
  | x :: xs, y :: ys => by
    rw [List.zip_cons_cons, List.flatMap_cons, List.length_append, len_zip l xs ys, List.map_cons, List.map_cons, List.zip_cons_cons, List.map_cons, List.sum_cons, len_flat _ y.length x (fun a _ => by simp)]
theorem step_len (two : Bool) (ls : List Str) (tb : List (List Sh)) (h : tb ≠ []) : (step two ls tb).length = ls.length * below two (tb.map List.length) := by
  unfold step below
  cases two with
  | false =>
    simp only [Bool.false_eq_true, if_false]
    rw [len_flat _ (tb.getLast?.getD []).length ls (fun a _ => by simp)]
    rw [List.getLast?_map]
    cases z : tb.getLast? with
    | none => exact absurd (List.getLast?_eq_none_iff.mp z) h
    | some x => simp
  | true =>
    simp only [if_true]
    rw [len_flat _ (((tb.map List.length).zip (tb.map List.length).reverse).map fun p => p.1 * p.2).sum ls (fun l _ => by rw [len_zip, List.map_reverse])]
theorem table_nums (two : Bool) (ls : List Str) : ∀ n, (table two ls n).map List.length = nums two ls.length n
  | 0 => rfl
  | n + 1 => by
    have ne : table two ls n ≠ [] := by
      intro z
      have := table_len two ls n
      rw [z] at this
      cases this
    rw [table, nums, List.map_append, table_nums two ls n, List.map_singleton, step_len two ls _ ne, table_nums two ls n]
/-- sizes and labels of what the lists hold -/
def Fit (ls : List Str) (tb : List (List Sh)) : Prop := ∀ i S, tb[i]? = some S → ∀ s ∈ S, s.count = i ∧ Ones s
theorem step_fit {two : Bool} {ls : List Str} {tb : List (List Sh)} (hl : ∀ l ∈ ls, One1 l) (hf : Fit ls tb) : ∀ s ∈ step two ls tb, s.count = tb.length ∧ Ones s := by
  intro s hs
  unfold step at hs
  cases two with
  | false =>
    simp only [Bool.false_eq_true, if_false, List.mem_flatMap, List.mem_map] at hs
    obtain ⟨l, h1, c, h2, rfl⟩ := hs
    cases z : tb.getLast? with
    | none => rw [z] at h2; simp at h2
    | some S =>
      rw [z] at h2
      rw [List.getLast?_eq_getElem?] at z
      have hlt := (List.getElem?_eq_some_iff.mp z).1
      have q := hf _ _ z c h2
      exact ⟨by rw [Sh.count, q.1]; omega, hl l h1, q.2⟩
  | true =>
    simp only [if_true, List.mem_flatMap, List.mem_map] at hs
    obtain ⟨l, h1, p, hp, a, ha, b, hb, rfl⟩ := hs
    obtain ⟨i, hi⟩ := List.mem_iff_getElem?.mp hp
    rw [List.getElem?_zip_eq_some] at hi
    obtain ⟨e1, e2⟩ := hi
    have hi := (List.getElem?_eq_some_iff.mp e1).1
    rw [List.getElem?_reverse hi] at e2
    have q1 := hf _ _ e1 a ha
    have q2 := hf _ _ e2 b hb
    exact ⟨by rw [Sh.count, q1.1, q2.1]; omega, hl l h1, q1.2, q2.2⟩
theorem table_fit {two : Bool} {ls : List Str} (hl : ∀ l ∈ ls, One1 l) : ∀ n, Fit ls (table two ls n)
  | 0 => fun i S h s hs => by
    cases i with
    | zero =>
      simp only [table, List.getElem?_cons_zero, Option.some.injEq] at h
      subst h
      simp only [List.mem_singleton] at hs
      subst hs
      exact ⟨rfl, trivial⟩
    | succ i => simp [table] at h
  | n + 1 => fun i S h s hs => by
    rw [table] at h
    by_cases hi : i < (table two ls n).length
    · rw [List.getElem?_append_left hi] at h
      exact table_fit hl n i S h s hs
    · rw [List.getElem?_append_right (by omega)] at h
      have : i - (table two ls n).length = 0 := by
        have := (List.getElem?_eq_some_iff.mp h).1
        simp at this
        omega
      rw [this] at h
      simp only [List.getElem?_cons_zero, Option.some.injEq] at h
      subst h
      have q := step_fit hl (table_fit hl n) s hs
      exact ⟨by rw [q.1]; omega, q.2⟩
theorem ls_len {ls : List Str} (h : ls ∈ LS) : ls.length ∈ [1, 2, 3] := by
  rcases ls_cases h with rfl | rfl | rfl <;> decide +kernel
theorem lt_ok : ∀ x ∈ LT, PyData.strOk x = true := by decide +kernel
theorem ls_one {ls : List Str} (h : ls ∈ LS) : ∀ l ∈ ls, One1 l := fun l hl => ⟨lt_len l (ls_letters h l hl), lt_ok l (ls_letters h l hl)⟩
theorem table_get (two : Bool) (ls : List Str) {n i : Nat} (h : i ≤ n) : ∃ S, (table two ls n)[i]? = some S ∧ S.length = num two ls.length i := by
  have hi : i < (table two ls n).length := by rw [table_len]; omega
  refine ⟨_, List.getElem?_eq_getElem hi, ?_⟩
  have e := nums_get two ls.length h
  rw [← table_nums, List.getElem?_map, List.getElem?_eq_getElem hi] at e
  exact Option.some.inj e
end K02

set_option Elab.async false
set_option linter.all false
set_option maxRecDepth 100000
set_option maxHeartbeats 2000000
namespace K02
open PySem PySem.Spec PyProof.Rows L2
/-- a comprehension over zip of two lists -/
theorem lc_zip {K : PySem.W.Frag} {a b : Addr} {xs ys : List V} {g : TG} {tt : TT} {te : TE} {vs : List Nat} {σ : L2.St} {H1 : Hp} {D : Addr} {Qd : Hp → Prop} (hl : xs.length = ys.length) (Pv : Nat → Hp → Prop) (h0 : Pv 0 (upd H1 D (.lst []))) (hq : ∀ i H, i ≤ xs.length → Pv i H → SqL K H a xs ∧ SqL K H b ys)
    (hs : ∀ i x y H T, xs[i]? = some x → ys[i]? = some y → H T = none → Pv i H → g (.ref T) (wipe σ vs) (upd H T (.tup [x, y])) fun σ2 H2 => wipe σ2 vs = wipe σ vs ∧ tt σ2 H2 fun b H3 =>
      if b = true then te σ2 H3 fun y H4 => ∃ acc, H4 D = some (.lst acc) ∧ acc.length < sizeLine ∧ Pv (i + 1) (upd H4 D (.lst (acc ++ [y]))) else Pv (i + 1) H3) (hd : ∀ H, Pv xs.length H → Qd H) :
    ∃ W : Nat → Nat → Hp → Prop, (∃ m, W 0 m (upd H1 D (.lst []))) ∧ ∀ i m H, W i m H →
      ((Itz K a b).stop i H ∧ Qd H) ∨ ((Itz K a b).go i H ∧ ∃ Nx : Hp → Prop, (∀ H', Nx H' → ∃ m', m' < m ∧ W (i + 1) m' H') ∧ ∀ x H', (Itz K a b).yld i H x H' → g x (wipe σ vs) H' fun σ2 H2 => wipe σ2 vs = wipe σ vs ∧ tt σ2 H2 fun b H3 =>
        if b = true then te σ2 H3 fun y H4 => ∃ acc, H4 D = some (.lst acc) ∧ acc.length < sizeLine ∧ Nx (upd H4 D (.lst (acc ++ [y]))) else Nx H3) := by
  refine ⟨fun i m H => m = xs.length - i ∧ i ≤ xs.length ∧ Pv i H, ⟨xs.length, by simp, Nat.zero_le _, h0⟩, ?_⟩
  rintro i m H ⟨rfl, hi, p⟩
  obtain ⟨q1, q2⟩ := hq i H hi p
  by_cases hlt : i < xs.length
  · refine .inr ⟨⟨xs, ys, xs[i], ys[i]'(hl ▸ hlt), q1, q2, List.getElem?_eq_getElem hlt, List.getElem?_eq_getElem (hl ▸ hlt)⟩, Pv (i + 1), fun H' p' => ⟨xs.length - (i + 1), by omega, rfl, hlt, p'⟩, fun v H' z => ?_⟩
    obtain ⟨T, x, y, rfl, hT, rfl, z1, z2⟩ := z
    exact hs i x y H T (z1 xs q1) (z2 ys q2) hT p
  · have e : i = xs.length := by omega
    subst e
    exact .inl ⟨⟨xs, ys, q1, q2, .inl (Nat.le_refl _)⟩, hd H p⟩
abbrev sNumber : Stmt := top 16
theorem scNumber : FnScope ["kind", "count", "ways", "labels", "numbers", "below", "one", "other"] ["kind", "count"] (defScope sNumber) := ⟨rfl, rfl, rfl, by decide +kernel, rfl, by decide +kernel, by decide +kernel⟩
/-- what the top has written of TooLarge -/
structure ExcT (K : PySem.W.Frag) (mg : Str → Option Value) (C : Addr) : Prop where
  x : PySem.W.excIn K C [.type "ValueError", .type "Exception", .type "BaseException", .type "object"] "ValueError.__new__" = true
  g : mg "TooLarge" = some (.ref C)
  k : PySem.W.keepIn K (.ref C) = true
  b : PySem.W.subIn K (.ref C) (.type "BaseException") = some true
  t : PySem.W.typeIn K (.ref C) = some (.type "type")
  e : PySem.W.exmOne K (.ref C) (.ref C) = some true
def spNumber (C : Addr) : Sp := fun vs H Q E => ∃ (k : Addr) (two : Bool) (ls : List Str) (n : Nat), vs = [.ref k, .int n] ∧ KindAt H k two ls ∧ n ≤ 30 ∧
  (num two ls.length n ≤ 20000 → ∀ H', Same H H' → Q .non H') ∧ (20000 < num two ls.length n → ∀ H', Same H H' → E (.ref C) none H')
theorem last_num {two : Bool} {k n : Nat} : atI ((nums two k n).map fun x => V.int (x : Nat)) (-1) = some (.int (num two k n : Nat)) := by
  cases n with
  | zero => exact atI_last [] _
  | succ n =>
    rw [nums, List.map_append, List.map_singleton, ← num_succ]
    exact atI_last _ _
def tup2 (K : PySem.W.Frag) (i j : Nat) : TG := gTup K 2 (gCons (gName i) (gCons (gName j) gNil))
section
variable {P : Program} {w : World} {K : PySem.W.Frag} {mg : Str → Option Value} {base : Heap}
theorem ok_number {f C : Addr} {fd : FuncData} {k : Nat} (F : Fun K "_check_number" "_check_number" sNumber f fd) (T : ExcT K mg C) (ml : mg "len" = none) (mz : mg "zip" = none) (ms : mg "sum" = none) {tM : Tok} (mM : mg "MOST_SHAPES" = some (.int 20000 tM)) : FnOk P w K mg base (L2.CX P w) (k + 1) f fd ["kind", "count"] (spNumber C) := by
  refine F.okX scNumber (fun vs H Q E h => ?_) (fun cdv A outer s H vs Q E hr h => ?_)
  · obtain ⟨a, two, ls, n, rfl, _⟩ := h
    rfl
  obtain ⟨a, two, ls, n, rfl, hK, hn, q, qE⟩ := h
  have hu := hu_of hr
  refine ⟨_, pss_cons (ps_asg (pv 0) (pg_tup (by rfl) (pgs_cons (pg_name (i := 2) scNumber.nd rfl (.inl rfl)) (pgs_cons (pg_name (i := 3) scNumber.nd rfl (.inl rfl)) pgs_nil))))
    (pss_cons (ps_set (i := 4) scNumber.nd rfl (Or.inl rfl) (pe_lst (pa_cons pe_int pa_nil)))
    (pss_cons (ps_while (passes_of rfl) (PW.pt (pw_and (pt_cmpR op_le (pe_callB call_len_seq (by rfl) ml PySem.boot_len (pa_cons (pv 4) pa_nil)) (pv 1) (nomark _)) (pw_and1 (pt_cmpR op_le (pe_ix ix_list (pv 4) (pe_un un_neg pe_int) (fun _ _ => rfl)) (pe_glob (by rfl) mM (v := .int 20000) ⟨_, rfl⟩) (nomark _)))))
      (pss_cons (ps_set (i := 5) scNumber.nd rfl (Or.inl rfl) (pe_ix ix_list (pv 4) (pe_un un_neg pe_int) (fun _ _ => rfl)))
      (pss_cons (ps_if (pt_cmpR op_eq (pv 2) pe_int (nomark _))
        (pss_one (ps_set (i := 5) scNumber.nd rfl (Or.inl rfl) (pe_callB (cr_sum rfl) (by rfl) ms (by decide +kernel) (pa_cons
          (pe_lc (own := [("one", 6), ("other", 7)]) (g := tup2 K 6 7) (tt := tYes) rfl scNumber.nd (pi_zip (by rfl) mz (pa_cons (pv 4) (pa_cons (pe_revL (pv 4)) pa_nil)))
            (blkOk_by (own := [("one", 6), ("other", 7)]) (N := ["kind", "count", "ways", "labels", "numbers", "below", "one", "other"]) (sc := defScope sNumber) (by decide +kernel)) (fun _ _ _ _ _ => pg_tup (by rfl) (pgs_cons (pg_name (i := 6) scNumber.nd rfl (.inl rfl)) (pgs_cons (pg_name (i := 7) scNumber.nd rfl (.inl rfl)) pgs_nil))) (fun _ _ _ _ _ => pts_nil)
            (fun _ _ _ _ _ => pe_op op_mul (pv 6) (pv 7))) pa_nil)))) pss_nil)
      (pss_one (ps_expr (pe_bm PySem.F.plainAttrs_list PySem.F.slot_list_append PySem.F.type_list_append mt_append (pv 4) (pa_cons (pe_op op_mul (pe_callB call_len_seq (by rfl) ml PySem.boot_len (pa_cons (pv 3) pa_nil)) (pv 5)) pa_nil)))))))
    (pss_one (ps_if (pt_cmpR op_gt (pe_ix ix_list (pv 4) (pe_un un_neg pe_int) (fun _ _ => rfl)) (pe_glob (by rfl) mM (v := .int 20000) ⟨_, rfl⟩) (nomark _))
      (pss_one (ps_raise rfl (takes_of rfl rfl rfl rfl) (pmk_own PySem.F.excBase_ValueError T.x T.g T.k (raises_own T.b T.t) rfl))) pss_nil)))), ?_⟩
  obtain ⟨lab, ek, el, hls⟩ := hK
  have hk3 := ls_len hls
  refine ⟨_, rfl, a, _, rfl, SqT.of ek, rfl, _, _, rfl, _, _, rfl, rfl, (by show 1 ≤ sizeLine; exact small (by decide)), fun D hD => ?_⟩
  refine gn (nxs (while_seq (fun σ H1 => ∃ (j : Nat) (y5 : Option V), σ = [some (.ref a), some (.int n), some (.int (if two then 2 else 1)), some (.ref lab), some (.ref D), y5, none, none] ∧ j ≤ n ∧ Same H H1 ∧ H1 D = some (.lst ((nums two ls.length j).map fun x => V.int (x : Nat))) ∧ ∀ i, i < j → num two ls.length i ≤ 20000)
    (fun σ H1 => 40 - (match H1 D with | some (.lst xs) => xs.length | _ => 0)) ?_ (fun σ H1 p => ?_) (fun σ H Q Q' hq h => ?_)))
  · exact ⟨0, none, rfl, Nat.zero_le _, same_new hD, upd_same, fun i hi => absurd hi (Nat.not_lt_zero _)⟩
  · obtain ⟨j, y5, rfl, hj, g, eD, hb⟩ := p
    have hnl : ((nums two ls.length j).map fun x => V.int (x : Nat)).length = j + 1 := by rw [List.length_map, nums_len]
    refine ⟨_, rfl, D, _, rfl, .inl (SqL.of eD), _, rfl, _, _, rfl, rfl, _, rfl, ?_⟩
    refine ite2 (fun c => ?_) (fun c => ?_)
    · have c' := of_decide_eq_true c
      rw [hnl] at c'
      have hjn : j + 1 ≤ n := by omega
      refine ⟨_, rfl, 1, rfl, D, _, _, _, rfl, rfl, SqL.of eD, last_num, _, _, rfl, rfl, _, rfl, ?_⟩
      refine ite2 (fun c2 => ?_) (fun c2 => ?_)
      · have c2' : (num two ls.length j : Int) ≤ 20000 := of_decide_eq_true c2
        refine ⟨_, rfl, 1, rfl, D, _, _, _, rfl, rfl, SqL.of eD, last_num, ?_⟩
        have hl3 : ls.length ≤ 3 := by
          simp only [List.mem_cons, List.not_mem_nil, or_false] at hk3
          omega
        have hall : ∀ i, i ≤ j → num two ls.length i ≤ 20000 := fun i hi => by
          by_cases hij : i < j
          · exact hb i hij
          · rw [show i = j by omega]; omega
        cases two with
        | false =>
          refine ⟨_, rfl, rfl, _, rfl, ifF (fun z => by cases z) ?_⟩
          have hbel : ((num false ls.length j : Nat) : Int) = ((below false (nums false ls.length j) : Nat) : Int) := by
            have e := last_num (two := false) (k := ls.length) (n := j)
            unfold below
            simp only [Bool.false_eq_true, if_false]
            rw [List.getLast?_eq_getElem?, nums_len, Nat.add_sub_cancel, nums_get _ _ (Nat.le_refl j)]
            rfl
          have g2 := g
          have eD2 := eD
          refine ⟨_, rfl, .inl ⟨rfl, _, SqL.of eD2⟩, _, rfl, lab, _, rfl, .inr (SqT.of (g2 _ _ el)), _, rfl, _, _, rfl, rfl, .inl ⟨by rw [List.length_map]; omega, by rw [List.length_map]; omega⟩, D, _, _, rfl, rfl, eD2, small' (by rw [hnl]; omega), ⟨j + 1, _, rfl, hjn, same_fresh hD g2, ?_, fun i hi => ?_⟩, ?_⟩
          · rw [upd_same, nums, List.map_append, List.map_singleton, List.length_map]
            exact congrArg (fun z : Int => some (HO.lst (((nums _ ls.length j).map fun x => V.int (x : Nat)) ++ [V.int z]))) (by rw [hbel]; exact (Int.natCast_mul _ _).symm)
          · by_cases hij : i < j
            · exact hb i hij
            · rw [show i = j by omega]; omega
          · rw [upd_same, eD]
            show 40 - (_ ++ _ : List V).length < 40 - (List.map _ _).length
            rw [List.length_append, hnl]
            show 40 - (j + 1 + 1) < _
            omega
        | true =>
          refine ⟨_, rfl, rfl, _, rfl, ifT rfl ?_⟩
          refine ⟨_, rfl, _, rfl, D, _, rfl, SqL.of eD, fun R hR => ?_⟩
          have hDR : D ≠ R := ne_of_none eD hR
          have gR : Same H (upd H1 R (.lst ((nums true ls.length j).map fun x => V.int (x : Nat)).reverse)) := g.trans (same_new hR)
          have eDR : (upd H1 R (.lst ((nums true ls.length j).map fun x => V.int (x : Nat)).reverse)) D = some (.lst ((nums true ls.length j).map fun x => V.int (x : Nat))) := by rw [upd_ne hDR]; exact eD
          refine ⟨D, R, _, _, rfl, SqL.of eDR, SqL.of upd_same, fun L hL => ?_⟩
          have hDL : D ≠ L := ne_of_none eDR hL
          have hRL : R ≠ L := ne_of_none upd_same hL
          have hL0 : H L = none := gR.free hL
          let M : List Nat := ((nums true ls.length j).zip (nums true ls.length j).reverse).map fun p => p.1 * p.2
          have hM : ∀ i, i ≤ j → M[i]? = some (num true ls.length i * num true ls.length (j - i)) := fun i hi => by
            show (((nums true ls.length j).zip (nums true ls.length j).reverse).map fun p => p.1 * p.2)[i]? = _
            have z : ((nums true ls.length j).zip (nums true ls.length j).reverse)[i]? = some (num true ls.length i, num true ls.length (j - i)) := List.getElem?_zip_eq_some.mpr ⟨nums_get _ _ hi, by rw [List.getElem?_reverse (by rw [nums_len]; omega), nums_len, show j + 1 - 1 - i = j - i by omega]; exact nums_get _ _ (by omega)⟩
            rw [List.getElem?_map, z]
            rfl
          have hMl : M.length = j + 1 := by
            show (((nums true ls.length j).zip (nums true ls.length j).reverse).map fun p => p.1 * p.2).length = _
            rw [List.length_map, List.length_zip, List.length_reverse, nums_len]
            omega
          refine lc_zip (xs := (nums true ls.length j).map fun x => V.int (x : Nat)) (ys := ((nums true ls.length j).map fun x => V.int (x : Nat)).reverse) (by rw [List.length_reverse]) (fun i H2 => Same H H2 ∧ H2 D = some (.lst ((nums true ls.length j).map fun x => V.int (x : Nat))) ∧ H2 R = some (.lst ((nums true ls.length j).map fun x => V.int (x : Nat)).reverse) ∧ H2 L = some (.lst ((M.take i).map fun x => V.int (x : Nat))))
            ⟨gR.trans (same_new hL), (by rw [upd_ne hDL]; exact eDR), (by rw [upd_ne hRL]; exact upd_same), upd_same⟩ (fun i H2 hi p => ⟨SqL.of p.2.1, SqL.of p.2.2.1⟩) (fun i x y H2 T hx hy hT p => ?_) fun H2 p => ?_
          · obtain ⟨p1, p2, p3, p4⟩ := p
            have hi := (List.getElem?_eq_some_iff.mp hx).1
            rw [hnl] at hi
            rw [List.getElem?_map, nums_get _ _ (by omega)] at hx
            obtain rfl : V.int _ = x := Option.some.inj hx
            rw [List.getElem?_reverse (by rw [hnl]; exact hi), hnl, show j + 1 - 1 - i = j - i by omega, List.getElem?_map, nums_get _ _ (by omega)] at hy
            obtain rfl : V.int _ = y := Option.some.inj hy
            have h1 := hall i (by omega)
            have h2 := hall (j - i) (by omega)
            have hLT : L ≠ T := ne_of_none p4 hT
            refine ⟨T, _, rfl, SqT.of upd_same, rfl, _, _, rfl, _, _, rfl, rfl, rfl, yes_turn ?_⟩
            refine ⟨_, rfl, _, rfl, _, _, rfl, rfl, .inl ⟨by omega, by omega⟩, _, (by rw [upd_ne hLT]; exact p4), small' (by rw [List.length_map, List.length_take]; omega), same_fresh hL0 (p1.trans (same_new hT)), ?_, ?_, ?_⟩
            · rw [upd_ne hDL, upd_ne (ne_of_none p2 hT)]
              exact p2
            · rw [upd_ne hRL, upd_ne (ne_of_none p3 hT)]
              exact p3
            · rw [upd_same, List.take_add_one, hM i (by omega), Option.toList_some, List.map_append, List.map_singleton, Int.natCast_mul]
          · obtain ⟨g2, eD2, p3, p4⟩ := p
            rw [hnl, List.take_of_length_le (by omega)] at p4
            refine ⟨L, M.map (fun x : Nat => (x : Int)), rfl, SqL.of (by rw [List.map_map]; exact p4), ?_⟩
            have hsum : ∀ l : List Nat, (l.map (fun x : Nat => (x : Int))).sum = ((l.sum : Nat) : Int) := fun l => by
              induction l with
              | nil => rfl
              | cons x r ih => rw [List.map_cons, List.sum_cons, List.sum_cons, ih]; omega
            have hbel : (M.map (fun x : Nat => (x : Int))).sum = ((below true (nums true ls.length j) : Nat) : Int) := by
              rw [hsum]
              rfl
            refine ⟨_, rfl, .inl ⟨rfl, _, SqL.of eD2⟩, _, rfl, lab, _, rfl, .inr (SqT.of (g2 _ _ el)), _, rfl, _, _, rfl, rfl, .inl ⟨by rw [List.length_map]; omega, by rw [List.length_map]; omega⟩, D, _, _, rfl, rfl, eD2, small' (by rw [hnl]; omega), ⟨j + 1, _, rfl, hjn, same_fresh hD g2, ?_, fun i hi => ?_⟩, ?_⟩
            · rw [upd_same, nums, List.map_append, List.map_singleton, List.length_map]
              exact congrArg (fun z : Int => some (HO.lst (((nums _ ls.length j).map fun x => V.int (x : Nat)) ++ [V.int z]))) (by rw [hbel]; exact (Int.natCast_mul _ _).symm)
            · by_cases hij : i < j
              · exact hb i hij
              · rw [show i = j by omega]; omega
            · rw [upd_same, eD]
              show 40 - (_ ++ _ : List V).length < 40 - (List.map _ _).length
              rw [List.length_append, hnl]
              show 40 - (j + 1 + 1) < _
              omega
      · have c2' : ¬ (num two ls.length j : Int) ≤ 20000 := of_decide_eq_false (Bool.eq_false_iff.mpr c2)
        have big : 20000 < num two ls.length n := Nat.lt_of_lt_of_le (by omega) (num_mono (n := j) hk3 hj hn)
        refine ⟨_, rfl, 1, rfl, D, _, _, _, rfl, rfl, SqL.of eD, last_num, _, _, rfl, rfl, _, rfl, ?_⟩
        refine ifT (by omega) ?_
        exact qE big _ g
    · have c' := of_decide_eq_false (Bool.eq_false_iff.mpr c)
      rw [hnl] at c'
      have hjn : j = n := by omega
      subst hjn
      refine ⟨_, rfl, 1, rfl, D, _, _, _, rfl, rfl, SqL.of eD, last_num, _, _, rfl, rfl, _, rfl, ?_⟩
      refine ite2 (fun c2 => ?_) (fun c2 => ?_)
      · have c2' := of_decide_eq_true c2
        exact qE (by omega) _ g
      · have c2' := of_decide_eq_false (Bool.eq_false_iff.mpr c2)
        exact q (by omega) _ g
  · obtain ⟨v, e, p, xs, e1, hx, v2, e2, i, j, e3, e4, k, e5, h⟩ := h
    refine ⟨v, e, p, xs, e1, hx, v2, e2, i, j, e3, e4, k, e5, ?_⟩
    cases k with
    | false =>
      rw [if_neg Bool.false_ne_true] at h ⊢
      exact hq _ _ h
    | true =>
      rw [if_pos rfl] at h ⊢
      obtain ⟨v, e, i, e1, p, xs, j, w, e3, e4, hx, ha, i', j', e5, e6, k, e7, h⟩ := h
      exact ⟨v, e, i, e1, p, xs, j, w, e3, e4, hx, ha, i', j', e5, e6, k, e7, hq _ _ h⟩
end
end K02

set_option Elab.async false
set_option linter.all false
set_option maxRecDepth 100000
set_option maxHeartbeats 2000000
namespace K02
open PySem PySem.Spec PyProof.Rows L2 XC
theorem lcN_tup {K : PySem.W.Frag} {a : Addr} {xs : List V} {g : TG} {tt : TT} {vs : List Nat} {σ : L2.St} {tl : L2.St → Hp → (Hp → Prop) → Prop} {H0 : Hp} {Qd : Hp → Prop} (Pv : Nat → Hp → Prop) (h0 : Pv 0 H0) (hl : ∀ i H, i ≤ xs.length → Pv i H → SqT K H a xs)
    (hs : ∀ i x H, xs[i]? = some x → Pv i H → g x (wipe σ vs) H fun σ2 H2 => wipe σ2 vs = wipe σ vs ∧ tt σ2 H2 fun b H3 => if b = true then tl σ2 H3 (Pv (i + 1)) else Pv (i + 1) H3) (hd : ∀ H, Pv xs.length H → Qd H) :
    ∃ W : Nat → Nat → Hp → Prop, (∃ m, W 0 m H0) ∧ ∀ i m H, W i m H →
      ((Itt K a).stop i H ∧ Qd H) ∨ ((Itt K a).go i H ∧ ∃ Nx : Hp → Prop, (∀ H', Nx H' → ∃ m', m' < m ∧ W (i + 1) m' H') ∧ ∀ x H', (Itt K a).yld i H x H' → g x (wipe σ vs) H' fun σ2 H2 => wipe σ2 vs = wipe σ vs ∧ tt σ2 H2 fun b H3 =>
        if b = true then tl σ2 H3 Nx else Nx H3) := by
  refine ⟨fun i m H => m = xs.length - i ∧ i ≤ xs.length ∧ Pv i H, ⟨xs.length, by simp, Nat.zero_le _, h0⟩, ?_⟩
  rintro i m H ⟨rfl, hi, p⟩
  have q := hl i H hi p
  by_cases hlt : i < xs.length
  · refine .inr ⟨⟨xs, xs[i], q, by simp [hlt]⟩, Pv (i + 1), fun H' p' => ⟨xs.length - (i + 1), by omega, rfl, hlt, p'⟩, fun x H' y => ?_⟩
    obtain ⟨e, y⟩ := y
    subst e
    exact hs i x _ (y xs q) p
  · have e : i = xs.length := by omega
    subst e
    exact .inl ⟨⟨xs, q, Nat.le_refl _⟩, hd H p⟩
theorem lcN_list {K : PySem.W.Frag} {a : Addr} {xs : List V} {g : TG} {tt : TT} {vs : List Nat} {σ : L2.St} {tl : L2.St → Hp → (Hp → Prop) → Prop} {H0 : Hp} {Qd : Hp → Prop} (Pv : Nat → Hp → Prop) (h0 : Pv 0 H0) (hl : ∀ i H, i ≤ xs.length → Pv i H → SqL K H a xs)
    (hs : ∀ i x H, xs[i]? = some x → Pv i H → g x (wipe σ vs) H fun σ2 H2 => wipe σ2 vs = wipe σ vs ∧ tt σ2 H2 fun b H3 => if b = true then tl σ2 H3 (Pv (i + 1)) else Pv (i + 1) H3) (hd : ∀ H, Pv xs.length H → Qd H) :
    ∃ W : Nat → Nat → Hp → Prop, (∃ m, W 0 m H0) ∧ ∀ i m H, W i m H →
      ((Itl K a).stop i H ∧ Qd H) ∨ ((Itl K a).go i H ∧ ∃ Nx : Hp → Prop, (∀ H', Nx H' → ∃ m', m' < m ∧ W (i + 1) m' H') ∧ ∀ x H', (Itl K a).yld i H x H' → g x (wipe σ vs) H' fun σ2 H2 => wipe σ2 vs = wipe σ vs ∧ tt σ2 H2 fun b H3 =>
        if b = true then tl σ2 H3 Nx else Nx H3) := by
  refine ⟨fun i m H => m = xs.length - i ∧ i ≤ xs.length ∧ Pv i H, ⟨xs.length, by simp, Nat.zero_le _, h0⟩, ?_⟩
  rintro i m H ⟨rfl, hi, p⟩
  have q := hl i H hi p
  by_cases hlt : i < xs.length
  · refine .inr ⟨⟨xs, xs[i], q, by simp [hlt]⟩, Pv (i + 1), fun H' p' => ⟨xs.length - (i + 1), by omega, rfl, hlt, p'⟩, fun x H' y => ?_⟩
    obtain ⟨e, y⟩ := y
    subst e
    exact hs i x _ (y xs q) p
  · have e : i = xs.length := by omega
    subst e
    exact .inl ⟨⟨xs, q, Nat.le_refl _⟩, hd H p⟩
theorem lcN_zip {K : PySem.W.Frag} {a b : Addr} {xs ys : List V} {g : TG} {tt : TT} {vs : List Nat} {σ : L2.St} {tl : L2.St → Hp → (Hp → Prop) → Prop} {H0 : Hp} {Qd : Hp → Prop} (hl : xs.length = ys.length) (Pv : Nat → Hp → Prop) (h0 : Pv 0 H0) (hq : ∀ i H, i ≤ xs.length → Pv i H → SqL K H a xs ∧ SqL K H b ys)
    (hs : ∀ i x y H T, xs[i]? = some x → ys[i]? = some y → H T = none → Pv i H → g (.ref T) (wipe σ vs) (upd H T (.tup [x, y])) fun σ2 H2 => wipe σ2 vs = wipe σ vs ∧ tt σ2 H2 fun b H3 => if b = true then tl σ2 H3 (Pv (i + 1)) else Pv (i + 1) H3) (hd : ∀ H, Pv xs.length H → Qd H) :
    ∃ W : Nat → Nat → Hp → Prop, (∃ m, W 0 m H0) ∧ ∀ i m H, W i m H →
      ((Itz K a b).stop i H ∧ Qd H) ∨ ((Itz K a b).go i H ∧ ∃ Nx : Hp → Prop, (∀ H', Nx H' → ∃ m', m' < m ∧ W (i + 1) m' H') ∧ ∀ x H', (Itz K a b).yld i H x H' → g x (wipe σ vs) H' fun σ2 H2 => wipe σ2 vs = wipe σ vs ∧ tt σ2 H2 fun b H3 =>
        if b = true then tl σ2 H3 Nx else Nx H3) := by
  refine ⟨fun i m H => m = xs.length - i ∧ i ≤ xs.length ∧ Pv i H, ⟨xs.length, by simp, Nat.zero_le _, h0⟩, ?_⟩
  rintro i m H ⟨rfl, hi, p⟩
  obtain ⟨q1, q2⟩ := hq i H hi p
  by_cases hlt : i < xs.length
  · refine .inr ⟨⟨xs, ys, xs[i], ys[i]'(hl ▸ hlt), q1, q2, List.getElem?_eq_getElem hlt, List.getElem?_eq_getElem (hl ▸ hlt)⟩, Pv (i + 1), fun H' p' => ⟨xs.length - (i + 1), by omega, rfl, hlt, p'⟩, fun v H' z => ?_⟩
    obtain ⟨T, x, y, rfl, hT, rfl, z1, z2⟩ := z
    exact hs i x y H T (z1 xs q1) (z2 ys q2) hT p
  · have e : i = xs.length := by omega
    subst e
    exact .inl ⟨⟨xs, ys, q1, q2, .inl (Nat.le_refl _)⟩, hd H p⟩
abbrev sLarger : Stmt := top 17
def NLg : List Str := ["kind", "by_size", "ways", "labels", "label", "child", "firsts", "seconds", "first", "second"]
theorem scLarger : FnScope NLg ["kind", "by_size"] (defScope sLarger) := ⟨rfl, rfl, rfl, by decide +kernel, rfl, by decide +kernel, by decide +kernel⟩
/-- the element's reading -/
def tLast (D : Addr) (te : TE) : L2.St → Hp → (Hp → Prop) → Prop := fun σ H N => te σ H fun y H4 => ∃ acc, H4 D = some (.lst acc) ∧ acc.length < sizeLine ∧ N (upd H4 D (.lst (acc ++ [y])))
def wWord (K : PySem.W.Frag) : TI := iList K (tOp (rIxL K) (tVar 1) (tUn (rU fun i => .int (-i)) (tC (.int 1))))
def eWord : TE := tTup (tCons (tVar 4) (tCons (tVar 5) tNil))
def eTree : TE := tTup (tCons (tVar 4) (tCons (tVar 8) (tCons (tVar 9) tNil)))
def wZip (K : PySem.W.Frag) : TI := iZip K (tCons (tVar 1) (tCons (tRevL K (tVar 1)) tNil))
/-- size by size -/
def TableAt (H : Hp) (bs : List Addr) (tb : List (List Sh)) : Prop := bs.length = tb.length ∧ ∀ (i : Nat) (b : Addr) (S : List Sh), bs[i]? = some b → tb[i]? = some S → ∃ as : List Addr, H b = some (.lst (as.map V.ref)) ∧ Reps H as S
theorem TableAt.same {H H' : Hp} {bs : List Addr} {tb : List (List Sh)} (g : Same H H') (h : TableAt H bs tb) : TableAt H' bs tb := ⟨h.1, fun i b S e1 e2 => by
  obtain ⟨as, a, r⟩ := h.2 i b S e1 e2
  exact ⟨as, g _ _ a, r.same g⟩⟩
/-- a list that grows at D; R is what is still to come -/
def Mk (total : List Sh) (D : Addr) (Hx : Hp) (R : List Sh) (H1 : Hp) : Prop := But D Hx H1 ∧ ∃ as S, H1 D = some (.lst (as.map V.ref)) ∧ Reps H1 as S ∧ S ++ R = total
theorem Mk.again {total R : List Sh} {D : Addr} {Hx H1 H2 : Hp} (m : Mk total D Hx R H1) (g : Same H1 H2) : Mk total D H2 R H2 := by
  obtain ⟨_, as, S, e, r, t⟩ := m
  exact ⟨But.refl _ _, as, S, g _ _ e, r.same g, t⟩
theorem Mk.from {total R : List Sh} {D : Addr} {H0 Hx H1 : Hp} (b : But D H0 Hx) (m : Mk total D Hx R H1) : Mk total D H0 R H1 := ⟨b.trans m.1, m.2⟩
theorem Mk.to {total R R' : List Sh} {D : Addr} {Hx H1 : Hp} (m : Mk total D Hx R H1) (e : R = R') : Mk total D Hx R' H1 := e ▸ m
theorem Mk.push {total R : List Sh} {D t : Addr} {Hx H2 : Hp} {s : Sh} {xs : List V} (m : Mk total D Hx (s :: R) H2) (ht : H2 t = none) (rs : Rep (upd H2 t (.tup xs)) t s) :
    ∃ acc, (upd H2 t (.tup xs)) D = some (.lst acc) ∧ acc.length < total.length ∧ Mk total D Hx R (upd (upd H2 t (.tup xs)) D (.lst (acc ++ [V.ref t]))) := by
  obtain ⟨b, as, S, e, r, z⟩ := m
  have hDt : D ≠ t := ne_of_none e ht
  have eD : (upd H2 t (.tup xs)) D = some (.lst (as.map V.ref)) := by rw [upd_ne hDt]; exact e
  have bt : But D (upd H2 t (.tup xs)) (upd (upd H2 t (.tup xs)) D (.lst (as.map V.ref ++ [V.ref t]))) := (But.refl _ _).upd
  refine ⟨as.map V.ref, eD, ?_, fun b' o n q => bt b' o n (same_new ht _ _ (b b' o n q)), as ++ [t], S ++ [s], ?_, ?_, ?_⟩
  · rw [List.length_map, r.len, ← z, List.length_append, List.length_cons]
    omega
  · rw [upd_same, List.map_append]
    rfl
  · exact ((r.same (same_new ht)).mono (fun q => q.but1 eD bt)).snoc (rs.but1 eD bt)
  · rw [← z]
    simp
def tr1 (l : Str) (p : List Sh × List Sh) : List Sh := p.1.flatMap fun x => p.2.map (Sh.tree l x)
def tr0 (tb : List (List Sh)) (l : Str) : List Sh := (tb.zip tb.reverse).flatMap (tr1 l)
section
variable {K : PySem.W.Frag} {D : Addr} {H : Hp} {total : List Sh} {l : Str}
abbrev tM4 (K : PySem.W.Frag) (D : Addr) := tMid (iList K (tVar 7)) (gName 9) tYes [9] (tLast D eTree)
abbrev tM3 (K : PySem.W.Frag) (D : Addr) := tMid (iList K (tVar 6)) (gName 8) tYes [8, 9] (tM4 K D)
abbrev tM2 (K : PySem.W.Frag) (D : Addr) := tMid (wZip K) (tup2 K 6 7) tYes [6, 7, 8, 9] (tM3 K D)
theorem ref_at {as : List Addr} {u : Nat} {x : V} (h : (as.map V.ref)[u]? = some x) : ∃ c, as[u]? = some c ∧ x = V.ref c := by
  rw [List.getElem?_map] at h
  cases z : as[u]? with
  | none => rw [z] at h; cases h
  | some c => rw [z] at h; exact ⟨c, rfl, (Option.some.inj h).symm⟩
theorem inner4 {Hx H4 : Hp} {y0 y1 y2 y3 y5 y6 y9 : Option V} {b2 c1 : Addr} {as2 : List Addr} {S2 R3 : List Sh} {s1 : Sh} {N : Hp → Prop} (hD : H D = none) (gx : Same H Hx) (h300 : total.length ≤ 300) (ea2 : H b2 = some (.lst (as2.map V.ref))) (ra2 : Reps H as2 S2) (rc1 : Rep H c1 s1)
    (m : Mk total D Hx (S2.map (Sh.tree l s1) ++ R3) H4) (nx : ∀ H5, Mk total D Hx R3 H5 → N H5) :
    tM4 K D [y0, y1, y2, y3, some (.str l), y5, y6, some (.ref b2), some (.ref c1), y9] H4 N := by
  have toS : ∀ {H2 : Hp} {R : List Sh}, Mk total D Hx R H2 → Same H H2 := fun m => m.1.same0 hD gx
  refine ⟨_, rfl, b2, rfl, ⟨_, SqL.of (toS m _ _ ea2)⟩, ?_⟩
  refine lcN_list (xs := as2.map V.ref) (fun v H5 => Mk total D Hx (((S2.drop v).map (Sh.tree l s1)) ++ R3) H5) m (fun v H5 hv m5 => SqL.of (toS m5 _ _ ea2)) (fun v x H5 hx5 m5 => ?_) fun H5 m5 => ?_
  · obtain ⟨c2, hc2, rfl⟩ := ref_at hx5
    obtain ⟨s2, hs2, rc2⟩ := ra2.get' hc2
    rw [drop_at hs2, List.map_cons, List.cons_append] at m5
    refine ⟨rfl, yes_turn ?_⟩
    refine ⟨_, rfl, _, rfl, _, rfl, (by show 3 ≤ sizeLine; exact small (by decide)), fun t ht => ?_⟩
    have gx5 := (toS m5).trans (same_new (o := .tup [.str l, .ref c1, .ref c2]) ht)
    obtain ⟨acc, e1, e2, m6⟩ := m5.push (xs := [.str l, .ref c1, .ref c2]) ht (.tree upd_same (rc1.same gx5) (rc2.same gx5))
    exact ⟨acc, e1, small' (by omega), m6⟩
  · rw [List.length_map, ra2.len, List.drop_length] at m5
    exact nx _ m5
theorem inner3 {Hx H4 : Hp} {y0 y1 y2 y3 y5 y8 y9 : Option V} {b1 b2 : Addr} {as1 as2 : List Addr} {S1 S2 R2 : List Sh} {N : Hp → Prop} (hD : H D = none) (gx : Same H Hx) (h300 : total.length ≤ 300) (ea1 : H b1 = some (.lst (as1.map V.ref))) (ra1 : Reps H as1 S1) (ea2 : H b2 = some (.lst (as2.map V.ref))) (ra2 : Reps H as2 S2)
    (m : Mk total D Hx (tr1 l (S1, S2) ++ R2) H4) (nx : ∀ H5, Mk total D Hx R2 H5 → N H5) :
    tM3 K D [y0, y1, y2, y3, some (.str l), y5, some (.ref b1), some (.ref b2), y8, y9] H4 N := by
  have toS : ∀ {H2 : Hp} {R : List Sh}, Mk total D Hx R H2 → Same H H2 := fun m => m.1.same0 hD gx
  refine ⟨_, rfl, b1, rfl, ⟨_, SqL.of (toS m _ _ ea1)⟩, ?_⟩
  refine lcN_list (xs := as1.map V.ref) (fun v H5 => Mk total D Hx (((S1.drop v).flatMap fun x => S2.map (Sh.tree l x)) ++ R2) H5) m (fun v H5 hv m5 => SqL.of (toS m5 _ _ ea1)) (fun v x H5 hx5 m5 => ?_) fun H5 m5 => ?_
  · obtain ⟨c1, hc1, rfl⟩ := ref_at hx5
    obtain ⟨s1, hs1, rc1⟩ := ra1.get' hc1
    rw [drop_at hs1, List.flatMap_cons, List.append_assoc] at m5
    refine ⟨rfl, yes_turn ?_⟩
    exact inner4 (H := H) hD gx h300 ea2 ra2 rc1 m5 fun H6 m6 => m6
  · rw [List.length_map, ra1.len, List.drop_length] at m5
    exact nx _ m5
theorem inner2 {Hx H1 : Hp} {y0 y2 y3 y5 y6 y7 y8 y9 : Option V} {b : Addr} {bs : List Addr} {tb : List (List Sh)} {R1 : List Sh} {N : Hp → Prop} (hD : H D = none) (gs : Same H H1) (h300 : total.length ≤ 300) (eb : H b = some (.lst (bs.map V.ref))) (hT : TableAt H bs tb)
    (m : Mk total D Hx (tr0 tb l ++ R1) H1) (nx : ∀ H5, Mk total D Hx R1 H5 → N H5) :
    tM2 K D [y0, some (.ref b), y2, y3, some (.str l), y5, y6, y7, y8, y9] H1 N := by
  have eb1 := gs _ _ eb
  refine ⟨_, rfl, _, rfl, b, _, rfl, SqL.of eb1, fun r hr2 => ?_⟩
  have g1 : Same H1 (upd H1 r (.lst (bs.map V.ref).reverse)) := same_new hr2
  have gx1 := gs.trans g1
  refine ⟨b, r, _, _, rfl, SqL.of (g1 _ _ eb1), SqL.of upd_same, ?_⟩
  have hrD : r ≠ D := by
    obtain ⟨_, as, S, e, _⟩ := m
    exact (ne_of_none e hr2).symm
  have toS : ∀ {H2 : Hp} {R : List Sh}, Mk total D (upd H1 r (.lst (bs.map V.ref).reverse)) R H2 → Same H H2 := fun m => m.1.same0 hD gx1
  refine lcN_zip (xs := bs.map V.ref) (ys := (bs.map V.ref).reverse) (by rw [List.length_reverse]) (fun j H2 => Mk total D (upd H1 r (.lst (bs.map V.ref).reverse)) ((((tb.zip tb.reverse).drop j).flatMap (tr1 l)) ++ R1) H2) (m.again g1) (fun j H2 hj m2 => ⟨SqL.of (toS m2 _ _ eb), SqL.of (m2.1 _ _ hrD upd_same)⟩) (fun j x y H2 T hx2 hy2 hT2 m2 => ?_) fun H2 m2 => ?_
  · have hj := (List.getElem?_eq_some_iff.mp hx2).1
    rw [List.length_map] at hj
    obtain ⟨b1, hb1, rfl⟩ := ref_at hx2
    rw [List.getElem?_reverse (by rw [List.length_map]; exact hj), List.length_map] at hy2
    obtain ⟨b2, hb2, rfl⟩ := ref_at hy2
    have hjt : j < tb.length := by rw [← hT.1]; exact hj
    obtain ⟨S1, z1⟩ : ∃ S1, tb[j]? = some S1 := ⟨_, List.getElem?_eq_getElem hjt⟩
    obtain ⟨S2, z2⟩ : ∃ S2, tb[tb.length - 1 - j]? = some S2 := ⟨_, List.getElem?_eq_getElem (by omega)⟩
    have zz : (tb.zip tb.reverse)[j]? = some (S1, S2) := List.getElem?_zip_eq_some.mpr ⟨z1, by rw [List.getElem?_reverse hjt]; exact z2⟩
    obtain ⟨as1, ea1, ra1⟩ := hT.2 _ _ _ hb1 z1
    obtain ⟨as2, ea2, ra2⟩ := hT.2 _ _ _ hb2 (by rw [hT.1]; exact z2)
    rw [drop_at zz, List.flatMap_cons, List.append_assoc] at m2
    have g3 : Same H2 (upd H2 T (.tup [.ref b1, .ref b2])) := same_new hT2
    have bk : But D (upd H1 r (.lst (bs.map V.ref).reverse)) (upd H2 T (.tup [.ref b1, .ref b2])) := m2.1.trans (But.of g3)
    refine ⟨T, _, rfl, SqT.of upd_same, rfl, _, _, rfl, _, _, rfl, rfl, rfl, yes_turn ?_⟩
    exact inner3 (H := H) hD ((toS m2).trans g3) h300 ea1 ra1 ea2 ra2 (m2.again g3) fun H6 m6 => m6.from bk
  · rw [List.length_map, List.drop_eq_nil_of_le (by rw [List.length_zip, List.length_reverse, hT.1]; omega)] at m2
    exact nx _ (m2.from (m.1.trans (But.of g1)))
end
def spLarger : Sp := fun vs H Q _ => ∃ (k b : Addr) (two : Bool) (ls : List Str) (bs : List Addr) (tb : List (List Sh)), vs = [.ref k, .ref b] ∧ KindAt H k two ls ∧ H b = some (.lst (bs.map V.ref)) ∧ TableAt H bs tb ∧ tb ≠ [] ∧ tb.length ≤ 50 ∧ (step two ls tb).length ≤ 300 ∧
  ∀ H' q as, Same H H' → H q = none → H' q = some (.lst (as.map V.ref)) → Reps H' as (step two ls tb) → Q (.ref q) H'
section
variable {P : Program} {w : World} {K : PySem.W.Frag} {mg : Str → Option Value} {base : Heap}
theorem ok_larger {f : Addr} {fd : FuncData} {k : Nat} (F : Fun K "_one_larger" "_one_larger" sLarger f fd) (mz : mg "zip" = none) : FnOk P w K mg base CX0 (k + 1) f fd ["kind", "by_size"] spLarger := by
  refine F.ok scLarger (fun vs H Q E h => ?_) (fun cdv A outer s H vs Q E hr h => ?_)
  · obtain ⟨a, b, two, ls, bs, tb, rfl, _⟩ := h
    rfl
  obtain ⟨a, b, two, ls, bs, tb, rfl, hK, eb, hT, hne, h50, h300, q⟩ := h
  refine ⟨_, pss_cons (ps_asg (pv 0) (pg_tup (by rfl) (pgs_cons (pg_name (i := 2) scLarger.nd rfl (.inl rfl)) (pgs_cons (pg_name (i := 3) scLarger.nd rfl (.inl rfl)) pgs_nil))))
    (pss_cons (ps_if (pt_cmpR op_eq (pv 2) pe_int (nomark _))
      (pss_one (ps_ret (pe_lcN (own := [("label", 4), ("child", 5)]) (ws' := [5]) (g := gName 4) (tt := tYes) (tl := fun D => tMid (wWord K) (gName 5) tYes [5] (tLast D eWord)) rfl scLarger.nd (pi_tup (pv 3))
        (blkOk_by (own := [("label", 4), ("child", 5)]) (N := NLg) (sc := defScope sLarger) (by decide +kernel)) (by decide) (fun g h => by cases h; rfl) (fun _ _ _ _ _ => pg_name (i := 4) scLarger.nd rfl (Or.inl rfl)) (fun _ _ _ _ _ => pts_nil)
        (fun _ _ _ _ _ D => pb_mid rfl (fun g h => nomatch h) rfl rfl (fun _ _ => rfl) (pi_list (pe_ix ix_list (pv 1) (pe_un un_neg pe_int) (fun _ _ => rfl))) (pg_name (i := 5) scLarger.nd rfl (Or.inl rfl)) pts_nil (by decide)
          (pb_last rfl rfl (pe_tup (pa_cons (pv 4) (pa_cons (pv 5) pa_nil)))))))) pss_nil)
    (pss_one (ps_ret (pe_lcN (own := [("label", 4), ("firsts", 6), ("seconds", 7), ("first", 8), ("second", 9)]) (ws' := [6, 7, 8, 9]) (g := gName 4) (tt := tYes)
        (tl := fun D => tMid (wZip K) (tup2 K 6 7) tYes [6, 7, 8, 9] (tMid (iList K (tVar 6)) (gName 8) tYes [8, 9] (tMid (iList K (tVar 7)) (gName 9) tYes [9] (tLast D eTree)))) rfl scLarger.nd (pi_tup (pv 3))
        (blkOk_by (own := [("label", 4), ("firsts", 6), ("seconds", 7), ("first", 8), ("second", 9)]) (N := NLg) (sc := defScope sLarger) (by decide +kernel)) (by decide) (fun g h => by cases h; rfl) (fun _ _ _ _ _ => pg_name (i := 4) scLarger.nd rfl (Or.inl rfl)) (fun _ _ _ _ _ => pts_nil)
        (fun _ _ _ _ _ D => pb_mid rfl (fun g h => by cases h; rfl) rfl rfl (fun _ _ => rfl) (pi_zip (by rfl) mz (pa_cons (pv 1) (pa_cons (pe_revL (pv 1)) pa_nil))) (pg_tup (by rfl) (pgs_cons (pg_name (i := 6) scLarger.nd rfl (.inl rfl)) (pgs_cons (pg_name (i := 7) scLarger.nd rfl (.inl rfl)) pgs_nil))) pts_nil (by decide)
          (pb_mid rfl (fun g h => by cases h; rfl) rfl rfl (fun _ _ => rfl) (pi_list (pv 6)) (pg_name (i := 8) scLarger.nd rfl (Or.inl rfl)) pts_nil (by decide)
            (pb_mid rfl (fun g h => nomatch h) rfl rfl (fun _ _ => rfl) (pi_list (pv 7)) (pg_name (i := 9) scLarger.nd rfl (Or.inl rfl)) pts_nil (by decide)
              (pb_last rfl rfl (pe_tup (pa_cons (pv 4) (pa_cons (pv 8) (pa_cons (pv 9) pa_nil)))))))))))), ?_⟩
  obtain ⟨lab, ek, el, hls⟩ := hK
  refine ⟨_, rfl, a, _, rfl, SqT.of ek, rfl, _, _, rfl, _, _, rfl, rfl, ?_⟩
  cases two with
  | false =>
    refine ⟨_, rfl, rfl, _, rfl, ifT rfl ?_⟩
    refine ⟨_, rfl, lab, rfl, ⟨_, SqT.of el⟩, fun D hD => ?_⟩
    have g0 : Same H (upd H D (.lst [])) := same_new hD
    rcases List.eq_nil_or_concat tb with e | ⟨tb', S, e⟩
    · exact absurd e hne
    rw [List.concat_eq_append] at e
    subst e
    have hlen : bs.length = tb'.length + 1 := by rw [hT.1, List.length_append]; rfl
    have hbl : ∃ bl, bs[tb'.length]? = some bl := ⟨_, List.getElem?_eq_getElem (by omega)⟩
    obtain ⟨bl, hbl⟩ := hbl
    obtain ⟨as, ea, ra⟩ := hT.2 _ _ S hbl (by rw [List.getElem?_append_right (Nat.le_refl _), Nat.sub_self]; rfl)
    have hlast : atI (bs.map V.ref) (-1) = some (.ref bl) := by
      rcases List.eq_nil_or_concat bs with e | ⟨bs', x, e⟩
      · rw [e] at hlen; cases hlen
      · rw [List.concat_eq_append] at e
        subst e
        rw [List.length_append] at hlen
        have : tb'.length = bs'.length := by
          simp only [List.length_singleton] at hlen
          omega
        rw [this, List.getElem?_append_right (Nat.le_refl _), Nat.sub_self] at hbl
        obtain rfl : x = bl := Option.some.inj hbl
        rw [List.map_append]
        exact atI_last _ _
    have htot : step false ls (tb' ++ [S]) = ls.flatMap fun l => S.map fun c => Sh.word l c := by
      unfold step
      simp
    rw [htot] at h300
    have toS : ∀ {H2 : Hp} {R : List Sh}, Mk (ls.flatMap fun l => S.map fun c => Sh.word l c) D (upd H D (.lst [])) R H2 → Same H H2 := fun m => m.1.same0 hD g0
    refine lcN_tup (xs := ls.map V.str) (fun i H1 => Mk (ls.flatMap fun l => S.map fun c => Sh.word l c) D (upd H D (.lst [])) ((ls.drop i).flatMap fun l => S.map fun c => Sh.word l c) H1) ⟨But.refl _ _, [], [], upd_same, True.intro, rfl⟩ (fun i H1 hi m => SqT.of (toS m _ _ el)) (fun i x H1 hx m => ?_) fun H1 m => ?_
    · rw [List.getElem?_map] at hx
      obtain ⟨l, hl, rfl⟩ : ∃ l, ls[i]? = some l ∧ x = V.str l := by
        cases z : ls[i]? with
        | none => rw [z] at hx; cases hx
        | some l => rw [z] at hx; exact ⟨l, rfl, (Option.some.inj hx).symm⟩
      rw [drop_at hl, List.flatMap_cons] at m
      refine ⟨rfl, yes_turn ?_⟩
      have gs := toS m
      refine ⟨_, rfl, 1, rfl, b, _, _, _, rfl, rfl, SqL.of (gs _ _ eb), hlast, bl, rfl, ⟨_, SqL.of (gs _ _ ea)⟩, ?_⟩
      refine lcN_list (xs := as.map V.ref) (fun j H2 => Mk (ls.flatMap fun l => S.map fun c => Sh.word l c) D (upd H D (.lst [])) (((S.drop j).map fun c => Sh.word l c) ++ (ls.drop (i + 1)).flatMap fun l => S.map fun c => Sh.word l c) H2) m (fun j H2 hj m2 => SqL.of (toS m2 _ _ ea)) (fun j x H2 hx2 m2 => ?_) fun H2 m2 => ?_
      · rw [List.getElem?_map] at hx2
        obtain ⟨c, hc, rfl⟩ : ∃ c, as[j]? = some c ∧ x = V.ref c := by
          cases z : as[j]? with
          | none => rw [z] at hx2; cases hx2
          | some c => rw [z] at hx2; exact ⟨c, rfl, (Option.some.inj hx2).symm⟩
        obtain ⟨s', hs', rc⟩ := ra.get' hc
        rw [drop_at hs', List.map_cons, List.cons_append] at m2
        refine ⟨rfl, yes_turn ?_⟩
        refine ⟨_, rfl, _, rfl, (by show 2 ≤ sizeLine; exact small (by decide)), fun t ht => ?_⟩
        obtain ⟨acc, e1, e2, m3⟩ := m2.push (xs := [.str l, .ref c]) ht (.word upd_same ((rc.same (toS m2)).same (same_new ht)))
        exact ⟨acc, e1, small' (by omega), m3⟩
      · rw [List.length_map, ra.len, List.drop_length] at m2
        exact m2
    · obtain ⟨m1, as', S', e1, r1, z1⟩ := m
      rw [List.length_map, List.drop_length, List.flatMap_nil, List.append_nil] at z1
      rw [z1, ← htot] at r1
      exact q _ _ _ (m1.same0 hD g0) hD e1 r1
  | true =>
    refine ⟨_, rfl, rfl, _, rfl, ifF (fun z => by cases z) ?_⟩
    refine ⟨_, rfl, lab, rfl, ⟨_, SqT.of el⟩, fun D hD => ?_⟩
    have g0 : Same H (upd H D (.lst [])) := same_new hD
    have gs0 : ∀ {H2 : Hp} {R : List Sh}, Mk (step true ls tb) D (upd H D (.lst [])) R H2 → Same H H2 := fun m => m.1.same0 hD g0
    refine lcN_tup (xs := ls.map V.str) (fun i H1 => Mk (step true ls tb) D (upd H D (.lst [])) ((ls.drop i).flatMap (tr0 tb)) H1) ⟨But.refl _ _, [], [], upd_same, True.intro, rfl⟩ (fun i H1 hi m => SqT.of (gs0 m _ _ el)) (fun i x H1 hx m => ?_) fun H1 m => ?_
    · rw [List.getElem?_map] at hx
      obtain ⟨l, hl, rfl⟩ : ∃ l, ls[i]? = some l ∧ x = V.str l := by
        cases z : ls[i]? with
        | none => rw [z] at hx; cases hx
        | some l => rw [z] at hx; exact ⟨l, rfl, (Option.some.inj hx).symm⟩
      rw [drop_at hl, List.flatMap_cons] at m
      refine ⟨rfl, yes_turn ?_⟩
      exact inner2 (H := H) hD (gs0 m) h300 eb hT m fun H5 m5 => m5
    · obtain ⟨m1, as', S', e1, r1, z1⟩ := m
      rw [List.length_map, List.drop_length, List.flatMap_nil, List.append_nil] at z1
      rw [z1] at r1
      exact q _ _ _ (m1.same0 hD g0) hD e1 r1
end
end K02

set_option Elab.async false
set_option linter.all false
set_option maxRecDepth 100000
set_option maxHeartbeats 2000000
namespace K02
open PySem PySem.Spec PyProof.Rows L2 XC XK XL
/-! ### the shape at an address; sorting by texts -/
open Classical in
noncomputable def shAt (H : Hp) (a : Addr) : Sh := if h : ∃ t, Rep H a t then Classical.choose h else .nil
theorem shAt_eq {H : Hp} {a : Addr} {t : Sh} (r : Rep H a t) : shAt H a = t := by
  unfold shAt
  have h : ∃ t, Rep H a t := ⟨t, r⟩
  rw [dif_pos h]
  exact (Classical.choose_spec h).one r
theorem shAt_map {H : Hp} : ∀ {as : List Addr} {S : List Sh}, Reps H as S → as.map (shAt H) = S
  | [], [], _ => rfl
  | a :: as, s :: S, ⟨h, t⟩ => by rw [List.map_cons, shAt_eq h, shAt_map t]
theorem reps_of {H : Hp} : ∀ {ys : List Addr}, (∀ y ∈ ys, ∃ t, Rep H y t) → Reps H ys (ys.map (shAt H))
  | [], _ => True.intro
  | y :: ys, h => by
    obtain ⟨t, r⟩ := h y (by simp)
    exact ⟨by rw [shAt_eq r]; exact r, reps_of fun z hz => h z (by simp [hz])⟩
theorem Reps.mem {H : Hp} : ∀ {as : List Addr} {S : List Sh} {a : Addr}, Reps H as S → a ∈ as → ∃ s ∈ S, Rep H a s
  | [], [], _, _, h => by simp at h
  | a :: as, s :: S, x, ⟨r, t⟩, h => by
    rcases List.mem_cons.mp h with rfl | h
    · exact ⟨s, by simp, r⟩
    · obtain ⟨s', h1, h2⟩ := Reps.mem t h
      exact ⟨s', by simp [h1], h2⟩
theorem sorted_reps {H H' : Hp} {as ys : List Addr} {S : List Sh} (r : Reps H as S) (g : ∀ {t : Sh} {a : Addr}, Rep H a t → Rep H' a t) (h : IsSort (fun a => text (shAt H a)) ys as) : Reps H' ys (ys.map (shAt H)) ∧ IsSort text (ys.map (shAt H)) S := by
  refine ⟨(reps_of fun y hy => ?_).mono g, ?_⟩
  · obtain ⟨s, _, q⟩ := r.mem (h.perm.mem_iff.mp hy)
    exact ⟨s, q⟩
  · have z := h.map (k' := text) (shAt H) fun x _ => rfl
    rwa [shAt_map r] at z
def lists (two : Bool) (ls : List Str) (n : Nat) : List Sh := (table two ls n).getD n []
theorem lists_get (two : Bool) (ls : List Str) (n : Nat) : (table two ls n)[n]? = some (lists two ls n) := by
  unfold lists
  rw [List.getD_eq_getElem?_getD, List.getElem?_eq_getElem (by rw [table_len]; omega)]
  rfl
theorem lists_len (two : Bool) (ls : List Str) (n : Nat) : (lists two ls n).length = num two ls.length n := by
  obtain ⟨S, h1, h2⟩ := table_get two ls (Nat.le_refl n)
  rw [lists_get] at h1
  rw [Option.some.inj h1, h2]
theorem lists_succ (two : Bool) (ls : List Str) (n : Nat) : lists two ls (n + 1) = step two ls (table two ls n) := by
  have h := lists_get two ls (n + 1)
  rw [table, List.getElem?_append_right (by rw [table_len]; exact Nat.le_refl _), table_len, Nat.sub_self] at h
  exact (Option.some.inj h).symm
theorem lists_fit {two : Bool} {ls : List Str} (hl : ls ∈ LS) (n : Nat) : ∀ s ∈ lists two ls n, s.count = n ∧ Ones s := table_fit (two := two) (ls_one hl) n n _ (lists_get two ls n)
theorem TableAt.push {H : Hp} {bs : List Addr} {tb : List (List Sh)} {q : Addr} {as : List Addr} {S : List Sh} (h : TableAt H bs tb) (e : H q = some (.lst (as.map V.ref))) (r : Reps H as S) : TableAt H (bs ++ [q]) (tb ++ [S]) := by
  refine ⟨by rw [List.length_append, List.length_append, h.1]; rfl, fun i b S' e1 e2 => ?_⟩
  by_cases hi : i < bs.length
  · rw [List.getElem?_append_left hi] at e1
    rw [List.getElem?_append_left (by rw [← h.1]; exact hi)] at e2
    exact h.2 i b S' e1 e2
  · rw [List.getElem?_append_right (by omega)] at e1
    rw [List.getElem?_append_right (by rw [← h.1]; omega), ← h.1] at e2
    have z : i - bs.length = 0 := by
      have := (List.getElem?_eq_some_iff.mp e1).1
      simp at this
      omega
    rw [z] at e1 e2
    obtain rfl : q = b := Option.some.inj e1
    obtain rfl : S = S' := Option.some.inj e2
    exact ⟨as, e, r⟩
/-- lists that aren't at D stay, D being a list of lists -/
theorem TableAt.put {H : Hp} {D : Addr} {bs : List Addr} {tb : List (List Sh)} {xs : List V} (h : TableAt H bs tb) (eD : H D = some (.lst xs)) (hb : D ∉ bs) (ys : List V) : TableAt (upd H D (.lst ys)) bs tb := by
  refine ⟨h.1, fun i b S e1 e2 => ?_⟩
  obtain ⟨as, a, r⟩ := h.2 i b S e1 e2
  have n : b ≠ D := fun z => hb (z ▸ List.mem_of_getElem? e1)
  exact ⟨as, by rw [upd_ne n]; exact a, r.mono fun q => q.but1 eD (But.refl D H).upd⟩
abbrev sAll : Stmt := top 15
theorem scAll : FnScope ["kind", "count", "by_size"] ["kind", "count"] (defScope sAll) := ⟨rfl, rfl, rfl, by decide +kernel, rfl, by decide +kernel, by decide +kernel⟩
def spAll (C : Addr) : Sp := fun vs H Q E => ∃ (k : Addr) (two : Bool) (ls : List Str) (n : Nat), vs = [.ref k, .int n] ∧ KindAt H k two ls ∧ n ≤ 30 ∧ (num two ls.length n ≤ 300 ∨ 20000 < num two ls.length n) ∧
  (num two ls.length n ≤ 300 → ∀ H' q as S, Same H H' → H' q = some (.lst (as.map V.ref)) → Reps H' as S → IsSort text S (lists two ls n) → Q (.ref q) H') ∧ (20000 < num two ls.length n → ∀ H', Same H H' → E (.ref C) none H')
section
variable {P : Program} {w : World} {K : PySem.W.Frag} {mg : Str → Option Value} {base : Heap}
theorem ok_all {f c n l g C : Addr} {fd cd nd ld gd : FuncData} (F : Fun K "all_shapes" "all_shapes" sAll f fd) (GC : FnOk P w K mg base CX0 3 c cd ["kind"] spCheck) (bC : Binds K cd ["kind"] []) (kC : PySem.W.keepIn K (.ref c) = true) (mC : mg "check_kind" = some (.ref c))
    (GN : FnOk P w K mg base (L2.CX P w) 1 n nd ["kind", "count"] (spNumber C)) (bN : Binds K nd ["kind", "count"] []) (kN : PySem.W.keepIn K (.ref n) = true) (mN : mg "_check_number" = some (.ref n))
    (GL : FnOk P w K mg base CX0 1 l ld ["kind", "by_size"] spLarger) (bL : Binds K ld ["kind", "by_size"] []) (kL : PySem.W.keepIn K (.ref l) = true) (mL : mg "_one_larger" = some (.ref l))
    (GW : FnOk P w K mg base CX0 3 g gd ["shape"] spWrite) (bW : Binds K gd ["shape"] []) (mW : mg "write_shape" = some (.ref g)) (ml : mg "len" = none) (ms : mg "sorted" = none) : FnOk P w K mg base (L2.CX P w) 6 f fd ["kind", "count"] (spAll C) := by
  refine F.okX scAll (fun vs H Q E h => ?_) (fun cdv A outer s H vs Q E hr h => ?_)
  · obtain ⟨a, two, ls, n, rfl, _⟩ := h
    rfl
  obtain ⟨a, two, ls, n, rfl, hK, hn, hor, q, qE⟩ := h
  refine ⟨_, pss_cons (ps_expr (pe_call GC (hr.mono (by decide)) (by rfl) mC kC bC .nil pass0 (pa_cons (pv 0) pa_nil)))
    (pss_cons (ps_if (pt_cmpR op_lt (pv 1) pe_int (nomark _)) pss_never pss_nil)
    (pss_cons (ps_expr (pe_call GN (hr.mono (by decide)) (by rfl) mN kN bN .nil (passes_call (takes_of rfl rfl rfl rfl) fun _ _ _ _ h => h) (pa_cons (pv 0) (pa_cons (pv 1) pa_nil))))
    (pss_cons (ps_set (i := 2) scAll.nd rfl (Or.inl rfl) (pe_lst (pa_cons (pe_lst (pa_cons (pe_tup pa_nil) pa_nil)) pa_nil)))
    (pss_cons (ps_while (passes_of rfl) (pt_cmpR op_le (pe_callB call_len_seq (by rfl) ml PySem.boot_len (pa_cons (pv 2) pa_nil)) (pv 1) (nomark _))
      (pss_one (ps_expr (pe_bm PySem.F.plainAttrs_list PySem.F.slot_list_append PySem.F.type_list_append mt_append (pv 2) (pa_cons (pe_call GL (hr.mono (by decide)) (by rfl) mL kL bL .nil pass0 (pa_cons (pv 0) (pa_cons (pv 2) pa_nil))) pa_nil)))))
    (pss_one (ps_ret (pe_callBK (cr_sortKey (keyOk_def GW bW) hr rfl) (by rfl) ms (by decide +kernel) (pa_cons (pe_ix ix_list (pv 2) (pv 1) (fun _ _ => rfl)) pa_nil) (pk_cons (pe_glob (by rfl) mW (v := .ref g) rfl) pk_nil)))))))), ?_⟩
  refine ⟨_, rfl, a, two, ls, rfl, hK, fun H1 g1 => ?_⟩
  refine ⟨_, rfl, _, _, rfl, rfl, _, rfl, ifF (by omega) ?_⟩
  refine ⟨_, rfl, _, rfl, a, two, ls, n, rfl, hK.same g1, hn, fun hle H2 g2 => ?_, fun hgt H2 g2 => qE hgt H2 (g1.trans g2)⟩
  have h300 : num two ls.length n ≤ 300 := by omega
  have hls := hK
  obtain ⟨lab, ek, el, hls⟩ := hls
  have hk3 := ls_len hls
  refine ⟨(by show 0 ≤ sizeLine; exact Nat.zero_le _), fun t ht => ⟨(by show 1 ≤ sizeLine; exact small (by decide)), fun L hL => ⟨(by show 1 ≤ sizeLine; exact small (by decide)), fun D hD => ?_⟩⟩⟩
  have g3 : Same H2 (upd H2 t (.tup [])) := same_new ht
  have g4 : Same (upd H2 t (.tup [])) (upd (upd H2 t (.tup [])) L (.lst [.ref t])) := same_new hL
  have g5 := same_new (o := .lst [.ref L]) hD
  have gH := (((g1.trans g2).trans g3).trans g4).trans g5
  have hD0 : H D = none := (((g1.trans g2).trans g3).trans g4).free hD
  refine gn (nxs (while_seq (fun σ H1 => ∃ (j : Nat) (bs : List Addr), σ = [some (.ref a), some (.int n), some (.ref D)] ∧ j ≤ n ∧ Same H H1 ∧ H1 D = some (.lst (bs.map V.ref)) ∧ TableAt H1 bs (table two ls j) ∧ D ∉ bs)
    (fun σ H1 => 40 - (match H1 D with | some (.lst xs) => xs.length | _ => 0)) ?_ (fun σ H1 p => ?_) (fun σ H Q Q' hq h => ?_)))
  · refine ⟨0, [L], rfl, Nat.zero_le _, gH, upd_same, ⟨rfl, fun i b S e1 e2 => ?_⟩, ?_⟩
    · cases i with
      | zero =>
        obtain rfl : L = b := Option.some.inj e1
        obtain rfl : [Sh.nil] = S := Option.some.inj e2
        exact ⟨[t], g5 _ _ upd_same, .nil (g5 _ _ (g4 _ _ upd_same)), True.intro⟩
      | succ i => simp at e1
    · intro z
      rw [List.mem_singleton] at z
      rw [z, upd_same] at hD
      cases hD
  · obtain ⟨j, bs, rfl, hj, g, eD, hT, hb⟩ := p
    have hbl : bs.length = j + 1 := by rw [hT.1, table_len]
    have hnl : (bs.map V.ref).length = j + 1 := by rw [List.length_map, hbl]
    refine ⟨_, rfl, D, _, rfl, .inl (SqL.of eD), _, rfl, _, _, rfl, rfl, _, rfl, ?_⟩
    refine ite2 (fun c => ?_) (fun c => ?_)
    · have c' := of_decide_eq_true c
      rw [hnl] at c'
      have hjn : j + 1 ≤ n := by omega
      have hst : (step two ls (table two ls j)).length ≤ 300 := by
        rw [← lists_succ, lists_len]
        exact Nat.le_trans (num_mono hk3 hjn hn) h300
      refine ⟨_, rfl, .inl ⟨rfl, _, SqL.of eD⟩, _, rfl, _, rfl, a, D, two, ls, bs, table two ls j, rfl, hK.same g, eD, hT, ?_, by rw [table_len]; omega, hst, fun H3 p as g' hp ep rp => ?_⟩
      · intro z
        have := table_len two ls j
        rw [z] at this
        cases this
      · have hpD : D ≠ p := ne_of_none eD hp
        have hDb : D ∉ bs ++ [p] := fun z => by
          rcases List.mem_append.mp z with z | z
          · exact hb z
          · exact hpD (List.mem_singleton.mp z)
        refine ⟨D, _, _, rfl, rfl, g' _ _ eD, small' (by rw [hnl]; omega), ⟨j + 1, bs ++ [p], rfl, hjn, same_fresh hD0 (g.trans g'), ?_, ((hT.same g').push ep rp).put (g' _ _ eD) hDb _, hDb⟩, ?_⟩
        · rw [upd_same, List.map_append]
          rfl
        · rw [upd_same, eD]
          show 40 - (_ ++ _ : List V).length < 40 - (List.map _ _).length
          rw [List.length_append, hnl]
          show 40 - (j + 1 + 1) < _
          omega
    · have c' := of_decide_eq_false (Bool.eq_false_iff.mpr c)
      rw [hnl] at c'
      have hjn : j = n := by omega
      subst hjn
      obtain ⟨bl, hbn⟩ : ∃ bl, bs[j]? = some bl := ⟨_, List.getElem?_eq_getElem (by omega)⟩
      obtain ⟨as, ea, ra⟩ := hT.2 _ _ _ hbn (lists_get two ls j)
      refine ⟨_, rfl, _, rfl, D, _, _, _, rfl, rfl, SqL.of eD, at_of rfl (by rw [List.getElem?_map, hbn] <;> rfl), bl, _, rfl, rfl, as, fun x => text (shAt H1 x), fun _ H2 => Same H1 H2, SqL.of ea, Same.refl _, fun i x H2 hx g2 => ?_, fun H2 ys p g2 hs hp _ => ?_⟩
      · obtain ⟨s', hs', r⟩ := ra.get' hx
        have fit := lists_fit hls j s' (List.mem_of_getElem? hs')
        refine ⟨rfl, x, s', rfl, r.same g2, by omega, fit.2, fun H3 g3 => ⟨?_, g2.trans g3⟩⟩
        show V.str (text s') = V.str (text (shAt H1 x))
        rw [shAt_eq r]
      · obtain ⟨z1, z2⟩ := sorted_reps (H' := upd H2 p (.lst (ys.map V.ref))) ra (fun r => r.same (g2.trans (same_new hp))) hs
        exact q h300 _ p ys _ ((g.trans g2).trans (same_new hp)) upd_same z1 z2
  · obtain ⟨v, e, p, xs, e1, hx, v2, e2, i, j, e3, e4, k, e5, h⟩ := h
    exact ⟨v, e, p, xs, e1, hx, v2, e2, i, j, e3, e4, k, e5, hq _ _ h⟩
end
end K02

set_option Elab.async false
set_option linter.all false
set_option maxRecDepth 100000
set_option maxHeartbeats 2000000
namespace K02
open PySem PySem.Spec PyProof.Rows L2 XC XK XL
abbrev sLKind : Stmt := top 24
abbrev sLText : Stmt := top 28
theorem scLKind : FnScope ["tape", "labels"] ["tape"] (defScope sLKind) := ⟨rfl, rfl, rfl, by decide +kernel, rfl, by decide +kernel, by decide +kernel⟩
theorem scLText : FnScope ["shape"] ["shape"] (defScope sLText) := ⟨rfl, rfl, rfl, by decide +kernel, rfl, by decide +kernel, by decide +kernel⟩
theorem TapeOk.same {H H' : Hp} {t : Addr} (g : Same H H') (h : TapeOk H t) : TapeOk H' t := by
  obtain ⟨kvs, c, T⟩ := h
  obtain ⟨ns, e, hn⟩ := T.list
  exact ⟨kvs, c, g _ _ T.dict, T.len, T.cells, ⟨ns, g _ _ e, hn⟩, T.at, T.left, T.seed, T.salt⟩
theorem TapeOk.ne {H : Hp} {t a : Addr} {xs : List V} (h : TapeOk H t) (e : H a = some (.tup xs)) : a ≠ t := by
  obtain ⟨kvs, c, T⟩ := h
  intro z
  rw [z, T.dict] at e
  cases e
theorem KindAt.but {H H' : Hp} {t k : Addr} {two : Bool} {ls : List Str} (T : TapeOk H t) (g : But t H H') (h : KindAt H k two ls) : KindAt H' k two ls := by
  obtain ⟨lab, a, b, c⟩ := h
  exact ⟨lab, g _ _ (T.ne a) a, g _ _ (T.ne b) b, c⟩
def spLKind : Sp := fun vs H Q _ => ∃ t : Addr, vs = [.ref t] ∧ TapeOk H t ∧ ∀ H' k two ls, But t H H' → TapeOk H' t → KindAt H' k two ls → Q (.ref k) H'
def data : Sh → PyData
  | .nil => .tuple []
  | .word l t => .tuple [.str l, data t]
  | .tree l a b => .tuple [.str l, data a, data b]
theorem data_lay : ∀ t : Sh, Ones t → (data t).canLay0 = true
  | .nil, _ => rfl
  | .word l t, h => by simp [data, PyData.canLay0, PyData.canLayAll0, data_lay t h.2, h.1.2]
  | .tree l a b, h => by simp [data, PyData.canLay0, PyData.canLayAll0, data_lay a h.2.1, data_lay b h.2.2, h.1.2]
theorem data_depth : ∀ t : Sh, (data t).depth ≤ t.count + 1
  | .nil => by simp [data, PyData.depth, PyData.depthAll]
  | .word l t => by
    have := data_depth t
    simp only [data, PyData.depth, PyData.depthAll, Sh.count]
    omega
  | .tree l a b => by
    have := data_depth a
    have := data_depth b
    simp only [data, PyData.depth, PyData.depthAll, Sh.count]
    omega
theorem data_shaped {t : Sh} (ho : Ones t) (h : t.count ≤ 60) : SeqAt.shaped (data t) = true := by
  unfold SeqAt.shaped
  rw [data_lay t ho, Bool.true_and]
  have := data_depth t
  exact decide_eq_true (by omega)
theorem Rep.data {K : PySem.W.Frag} {H : Hp} {a : Addr} {t : Sh} (r : Rep H a t) : Dp K H (.ref a) (data t) := by
  induction r with
  | nil h => exact .tup (SqT.of h) .nil
  | word h _ ih => exact .tup (SqT.of h) (.cons (.str _) (.cons ih .nil))
  | tree h _ _ i1 i2 => exact .tup (SqT.of h) (.cons (.str _) (.cons i1 (.cons i2 .nil)))
def spLText (n : Nat) : Sp := fun vs H Q _ => ∃ (a : Addr) (t : Sh), vs = [.ref a] ∧ Rep H a t ∧ t.count < n ∧ t.count ≤ 40 ∧ Ones t ∧ ∀ H', Same H H' → Q (.str (text t)) H'
section
variable {P : Program} {w : World} {K : PySem.W.Frag} {mg : Str → Option Value} {base : Heap}
theorem ok_lkind {f g : Addr} {fd gd : FuncData} {k : Nat} (F : Fun K "_law_kind" "_law_kind" sLKind f fd) (G : FnOk P w K mg base CX0 k g gd ["tape", "many"] spTake) (bG : Binds K gd ["tape", "many"] []) (kG : PySem.W.keepIn K (.ref g) = true) (mG : mg "_law_take" = some (.ref g)) : FnOk P w K mg base CX0 (k + 1) f fd ["tape"] spLKind := by
  refine F.ok scLKind (fun vs H Q E h => ?_) (fun cdv A outer s H vs Q E hr h => ?_)
  · obtain ⟨t, rfl, _⟩ := h
    rfl
  obtain ⟨t, rfl, hT, q⟩ := h
  refine ⟨_, pss_cons (ps_set (i := 1) scLKind.nd rfl (Or.inl rfl) (pe_ix ix_tup (pe_tup (pa_cons (pe_tup (pa_cons pe_str pa_nil)) (pa_cons (pe_tup (pa_cons pe_str (pa_cons pe_str pa_nil))) (pa_cons (pe_tup (pa_cons pe_str (pa_cons pe_str pa_nil))) (pa_cons (pe_tup (pa_cons pe_str (pa_cons pe_str (pa_cons pe_str pa_nil)))) pa_nil)))))
      (pe_call G hr (by rfl) mG kG bG .nil pass0 (pa_cons (pv 0) (pa_cons pe_int pa_nil))) (fun _ _ => rfl)))
    (pss_one (ps_ret (pe_tup (pa_cons (pe_op op_add pe_int (pe_op op_fdivN (pe_call G hr (by rfl) mG kG bG .nil pass0 (pa_cons (pv 0) (pa_cons pe_int pa_nil))) pe_int)) (pa_cons (pv 1) pa_nil))))), ?_⟩
  refine ⟨(by show 1 ≤ sizeLine; exact small (by decide)), fun a1 h1 => ⟨(by show 2 ≤ sizeLine; exact small (by decide)), fun a2 h2 => ⟨(by show 2 ≤ sizeLine; exact small (by decide)), fun a3 h3 => ⟨(by show 3 ≤ sizeLine; exact small (by decide)), fun a4 h4 => ⟨(by show 4 ≤ sizeLine; exact small (by decide)), fun a5 h5 => ?_⟩⟩⟩⟩⟩
  have g1 := same_new (o := .tup [.str "a"]) h1
  have g2 := same_new (o := .tup [.str "a", .str "b"]) h2
  have g3 := same_new (o := .tup [.str "a", .str "b"]) h3
  have g4 := same_new (o := .tup [.str "b", .str "d", .str "z"]) h4
  have g5 := same_new (o := .tup [.ref a1, .ref a2, .ref a3, .ref a4]) h5
  have gH := (((g1.trans g2).trans g3).trans g4).trans g5
  have T5 := hT.same gH
  refine ⟨_, rfl, t, 4, rfl, T5, by decide, by decide, fun H6 z b6 T6 z0 z4 => ?_⟩
  have e1 := g5 _ _ (g4 _ _ (g3 _ _ (g2 _ _ (upd_same (H := H) (a := a1) (o := .tup [.str "a"])))))
  have e2 := g5 _ _ (g4 _ _ (g3 _ _ (upd_same (a := a2) (o := .tup [.str "a", .str "b"]))))
  have e3 := g5 _ _ (g4 _ _ (upd_same (a := a3) (o := .tup [.str "a", .str "b"])))
  have e4 := g5 _ _ (upd_same (a := a4) (o := .tup [.str "b", .str "d", .str "z"]))
  have e6 := b6 _ _ (T5.ne upd_same) (upd_same (a := a5) (o := .tup [.ref a1, .ref a2, .ref a3, .ref a4]))
  obtain ⟨lab, ls, hls, hat, el⟩ : ∃ lab ls, ls ∈ LS ∧ atI [V.ref a1, .ref a2, .ref a3, .ref a4] z = some (.ref lab) ∧ H6 lab = some (.tup (ls.map V.str)) := by
    have hz : z = ((0 : Nat) : Int) ∨ z = ((1 : Nat) : Int) ∨ z = ((2 : Nat) : Int) ∨ z = ((3 : Nat) : Int) := by omega
    rcases hz with rfl | rfl | rfl | rfl
    · exact ⟨a1, LA, by simp [LS], atI_nat rfl, b6 _ _ (T5.ne e1) e1⟩
    · exact ⟨a2, LB, by simp [LS], atI_nat rfl, b6 _ _ (T5.ne e2) e2⟩
    · exact ⟨a3, LB, by simp [LS], atI_nat rfl, b6 _ _ (T5.ne e3) e3⟩
    · exact ⟨a4, LC, by simp [LS], atI_nat rfl, b6 _ _ (T5.ne e4) e4⟩
  refine ⟨a5, _, _, _, rfl, rfl, SqT.of e6, hat, ?_⟩
  refine ⟨_, rfl, t, 5, rfl, T6, by decide, by decide, fun H7 y b7 T7 y0 y5 => ?_⟩
  refine ⟨_, _, rfl, rfl, ⟨by decide, by decide⟩, _, _, rfl, rfl, _, rfl, (by show 2 ≤ sizeLine; exact small (by decide)), fun k hk => ?_⟩
  have el7 := b7 _ _ (T6.ne el) el
  have g8 := same_new (H := H7) (p := k) (o := .tup [.int (1 + y.fdiv 3), .ref lab]) hk
  refine q _ k (decide (2 < y)) ls ?_ (T7.same g8) ⟨lab, ?_, g8 _ _ el7, hls⟩
  · exact (((But.of gH).trans b6).trans b7).trans (But.of g8)
  · have hy : y = 0 ∨ y = 1 ∨ y = 2 ∨ y = 3 ∨ y = 4 := by omega
    rcases hy with rfl | rfl | rfl | rfl | rfl <;> exact upd_same
theorem ok_ltext {f : Addr} {fd : FuncData} {n : Nat} (F : Fun K "_law_text" "_law_text" sLText f fd) (G : FnOk P w K mg base CX0 n f fd ["shape"] (spLText n)) (bG : Binds K fd ["shape"] []) (mG : mg "_law_text" = some (.ref f)) (ml : mg "len" = none) : FnOk P w K mg base CX0 (n + 1) f fd ["shape"] (spLText (n + 1)) := by
  refine F.ok scLText (fun vs H Q E h => ?_) (fun cdv A outer s H vs Q E hr h => ?_)
  · obtain ⟨t, _, rfl, _⟩ := h
    rfl
  obtain ⟨a, t, rfl, hR, hn, h40, ho, q⟩ := h
  refine ⟨_, pss_cons (ps_if (pt_cmpR (op_eqD hr.units) (pv 0) (pe_tup pa_nil) (nomark _)) (pss_one (ps_ret pe_str)) pss_nil)
    (pss_cons (ps_if (pt_cmpR op_eq (pe_callB call_len_seq (by rfl) ml PySem.boot_len (pa_cons (pv 0) pa_nil)) pe_int (nomark _))
      (pss_one (ps_ret (pe_op op_add_str (pe_ix ix_tup (pv 0) pe_int (fun _ _ => rfl)) (pe_call G hr (by rfl) mG F.kp bG .nil pass0 (pa_cons (pe_ix ix_tup (pv 0) pe_int (fun _ _ => rfl)) pa_nil))))) pss_nil)
    (pss_one (ps_ret (pe_op op_add_str (pe_op op_add_str (pe_op op_add_str (pe_op op_add_str (pe_op op_add_str (pe_ix ix_tup (pv 0) pe_int (fun _ _ => rfl)) pe_str) (pe_call G hr (by rfl) mG F.kp bG .nil pass0 (pa_cons (pe_ix ix_tup (pv 0) pe_int (fun _ _ => rfl)) pa_nil))) pe_str) (pe_call G hr (by rfl) mG F.kp bG .nil pass0 (pa_cons (pe_ix ix_tup (pv 0) pe_int (fun _ _ => rfl)) pa_nil))) pe_str)))), ?_⟩
  refine ⟨_, rfl, (by show 0 ≤ sizeLine; exact Nat.zero_le _), fun p hp => ?_⟩
  have g1 := same_new (o := .tup []) hp
  have r1 := hR.same g1
  refine ⟨data t, .tuple [], r1.data, .tup (SqT.of upd_same) .nil, data_shaped ho (by omega), rfl, _, rfl, ?_⟩
  have six := six
  cases r1 with
  | nil h => exact iteT' (q _ g1)
  | @word _ c l u h r =>
    refine iteF' ?_
    have hl := text_len u ho.2
    simp only [Sh.count] at hn h40
    refine ⟨_, rfl, a, _, rfl, .inr (SqT.of h), rfl, _, rfl, ifT rfl ?_⟩
    refine ⟨_, rfl, _, _, 0, _, rfl, rfl, SqT.of h, rfl, _, rfl, _, _, 1, _, rfl, rfl, SqT.of h, rfl, c, u, rfl, r, by omega, by omega, ho.2, fun H2 g2 => ?_⟩
    exact ⟨l, text u, rfl, rfl, by have := ho.1.1; omega, q _ (g1.trans g2)⟩
  | @tree _ c d l u v h r1 r2 =>
    refine iteF' ?_
    have h1 := text_len u ho.2.1
    have h2 := text_len v ho.2.2
    have h3 := ho.1.1
    simp only [Sh.count] at hn h40
    refine ⟨_, rfl, a, _, rfl, .inr (SqT.of h), rfl, _, rfl, ifF (fun z => by cases z) ?_⟩
    refine ⟨_, rfl, _, _, 0, _, rfl, rfl, SqT.of h, rfl, _, _, rfl, rfl, by rw [l1]; omega, ?_⟩
    refine ⟨_, rfl, _, _, 1, _, rfl, rfl, SqT.of h, rfl, c, u, rfl, r1, by omega, by omega, ho.2.1, fun H2 g2 => ?_⟩
    refine ⟨_, _, rfl, rfl, by rw [Str.length_append, l1]; omega, _, _, rfl, rfl, by rw [Str.length_append, Str.length_append, l1, l2]; omega, ?_⟩
    refine ⟨_, rfl, _, _, 2, _, rfl, rfl, SqT.of (g2 _ _ h), rfl, d, v, rfl, r2.same g2, by omega, by omega, ho.2.2, fun H3 g3 => ?_⟩
    exact ⟨_, _, rfl, rfl, by rw [Str.length_append, Str.length_append, Str.length_append, l1, l2]; omega, _, _, rfl, rfl, by rw [Str.length_append, Str.length_append, Str.length_append, Str.length_append, l1, l2, l3]; omega, q _ ((g1.trans g2).trans g3)⟩
theorem no_ltext {f : Addr} {fd : FuncData} : FnOk P w K mg base CX0 0 f fd ["shape"] (spLText 0) := by
  have no : ∀ vs H Q E, ¬ spLText 0 vs H Q E := fun vs H Q E h => by
    obtain ⟨a, t, _, _, h, _⟩ := h
    exact absurd h (Nat.not_lt_zero _)
  exact ⟨fun vs H Q E h => absurd h (no vs H Q E), fun A outer s H args us vs Q E _ _ _ _ h => absurd h (no vs H Q E)⟩
theorem all_ltext {f : Addr} {fd : FuncData} (F : Fun K "_law_text" "_law_text" sLText f fd) (bG : Binds K fd ["shape"] []) (mG : mg "_law_text" = some (.ref f)) (ml : mg "len" = none) : ∀ n, FnOk P w K mg base CX0 n f fd ["shape"] (spLText n)
  | 0 => no_ltext
  | n + 1 => ok_ltext F (all_ltext F bG mG ml n) bG mG ml
end
end K02

set_option Elab.async false
set_option linter.all false
set_option maxRecDepth 100000
set_option maxHeartbeats 2000000
namespace K02
open PySem PySem.Spec PyProof.Rows L2 XC XK XL
abbrev sLNum : Stmt := top 30
def NNum : List Str := ["kind", "count", "found", "total", "many", "left"]
theorem scLNum : FnScope NNum ["kind", "count"] (defScope sLNum) := ⟨rfl, rfl, rfl, by decide +kernel, rfl, by decide +kernel, by decide +kernel⟩
def spLNum : Sp := fun vs H Q _ => ∃ (k : Addr) (two : Bool) (ls : List Str) (n : Nat), vs = [.ref k, .int n] ∧ KindAt H k two ls ∧ n ≤ 30 ∧ ∀ H', Same H H' → Q (.int (num two ls.length n : Nat)) H'
def prods (two : Bool) (k j : Nat) : List Nat := ((nums two k j).zip (nums two k j).reverse).map fun p => p.1 * p.2
theorem prods_get {two : Bool} {k j i : Nat} (hi : i ≤ j) : (prods two k j)[i]? = some (num two k i * num two k (j - i)) := by
  have z : ((nums two k j).zip (nums two k j).reverse)[i]? = some (num two k i, num two k (j - i)) := List.getElem?_zip_eq_some.mpr ⟨nums_get _ _ hi, by rw [List.getElem?_reverse (by rw [nums_len]; omega), nums_len, show j + 1 - 1 - i = j - i by omega]; exact nums_get _ _ (by omega)⟩
  unfold prods
  rw [List.getElem?_map, z]
  rfl
theorem prods_len {two : Bool} {k j : Nat} : (prods two k j).length = j + 1 := by
  unfold prods
  rw [List.length_map, List.length_zip, List.length_reverse, nums_len]
  omega
theorem sum_cast : ∀ l : List Nat, (l.map (fun x : Nat => (x : Int))).sum = ((l.sum : Nat) : Int) := fun l => by
  induction l with
  | nil => rfl
  | cons x r ih => rw [List.map_cons, List.sum_cons, List.sum_cons, ih]; omega
theorem below_one {k j : Nat} : below false (nums false k j) = num false k j := by
  unfold below
  simp only [Bool.false_eq_true, if_false]
  rw [List.getLast?_eq_getElem?, nums_len, Nat.add_sub_cancel, nums_get _ _ (Nat.le_refl j)]
  rfl
section
variable {P : Program} {w : World} {K : PySem.W.Frag} {mg : Str → Option Value} {base : Heap}
theorem ok_lnum {f : Addr} {fd : FuncData} {k : Nat} (F : Fun K "_law_number" "_law_number" sLNum f fd) (ml : mg "len" = none) (mr : mg "range" = none) (ms : mg "sum" = none) : FnOk P w K mg base CX0 (k + 1) f fd ["kind", "count"] spLNum := by
  refine F.ok scLNum (fun vs H Q E h => ?_) (fun cdv A outer s H vs Q E hr h => ?_)
  · obtain ⟨t, two, ls, n, rfl, _⟩ := h
    rfl
  obtain ⟨a, two, ls, n, rfl, hK, hn, q⟩ := h
  have hu := hu_of hr
  refine ⟨_, pss_cons (ps_set (i := 2) scLNum.nd rfl (Or.inr rfl) (pe_lst (pa_cons pe_int pa_nil)))
    (pss_cons (ps_for PassesOwn.never rfl (pi_range2 (by rfl) mr (pa_cons pe_int (pa_cons (pe_op op_add (pv 1) pe_int) pa_nil))) (pg_name (i := 3) scLNum.nd rfl (Or.inr rfl))
      (pss_cons (ps_set (i := 4) scLNum.nd rfl (Or.inl rfl) (pe_ifExp (pt_cmpR op_eq (pe_ix ix_tup (pv 0) pe_int (fun _ _ => rfl)) pe_int (nomark _)) (pe_ix ix_list (pv 2) (pe_un un_neg pe_int) (fun _ _ => rfl))
          (pe_callB (cr_sum rfl) (by rfl) ms (by decide +kernel) (pa_cons
            (pe_lc (own := [("left", 5)]) (g := gName 5) (tt := tYes) (te := tOp (rI CMulW fun i j => .int (i * j)) (tOp (rIxL K) (tVar 2) (tVar 5)) (tOp (rIxL K) (tVar 2) (tOp (rI0 fun i j => .int (i - j)) (tOp (rI0 fun i j => .int (i - j)) (tVar 3) (tC (.int 1))) (tVar 5)))) rfl scLNum.nd (pi_range1 (by rfl) mr (pa_cons (pv 3) pa_nil))
              (blkOk_by (own := [("left", 5)]) (N := NNum) (sc := defScope sLNum) (by decide +kernel)) (fun _ _ _ _ _ => pg_name (i := 5) scLNum.nd rfl (.inl rfl)) (fun _ _ _ _ _ => pts_nil)
              (fun _ _ _ _ _ => pe_op op_mulW (pe_ix ix_list (pv 2) (pv 5) (fun _ _ => rfl)) (pe_ix ix_list (pv 2) (pe_op op_sub (pe_op op_sub (pv 3) pe_int) (pv 5)) (fun _ _ => rfl)))) pa_nil))))
      (pss_one (ps_expr (pe_bm PySem.F.plainAttrs_list PySem.F.slot_list_append PySem.F.type_list_append mt_append (pv 2) (pa_cons (pe_op op_mulW (pe_callB call_len_seq (by rfl) ml PySem.boot_len (pa_cons (pe_ix ix_tup (pv 0) pe_int (fun _ _ => rfl)) pa_nil)) (pv 4)) pa_nil))))))
    (pss_one (ps_ret (pe_ix ix_list (pv 2) (pv 1) (fun _ _ => rfl))))), ?_⟩
  obtain ⟨lab, ek, el, hls⟩ := hK
  have hk3 := ls_len hls
  have hl3 : ls.length ≤ 3 := by
    simp only [List.mem_cons, List.not_mem_nil, or_false] at hk3
    omega
  refine ⟨(by show 1 ≤ sizeLine; exact small (by decide)), fun D hD => ?_⟩
  refine ⟨_, rfl, _, _, rfl, rfl, 1, (n : Int) + 1, rfl, by omega, ?_⟩
  refine for_range (lo := 1) (n := ((n : Int) + 1 - 1).toNat) (fun i σ H1 => ∃ (y3 y4 : Option V), σ = [some (.ref a), some (.int n), some (.ref D), y3, y4, none] ∧ Same H H1 ∧ H1 D = some (.lst ((nums two ls.length i).map fun x => V.int (x : Nat)))) ⟨none, none, rfl, same_new hD, upd_same⟩ (fun i σ H1 hi p => ?_) fun σ H1 p => ?_
  · obtain ⟨y3, y4, rfl, g, eD⟩ := p
    have hin : i < n := by omega
    have hnl : ((nums two ls.length i).map fun x => V.int (x : Nat)).length = i + 1 := by rw [List.length_map, nums_len]
    have big : num two ls.length (i + 1) < 2 ^ 200 := num_big hk3 (by omega)
    refine ⟨_, rfl, a, _, 0, _, rfl, rfl, SqT.of (g _ _ ek), rfl, rfl, _, rfl, ?_⟩
    cases two with
    | false =>
      refine ifT rfl ?_
      refine ⟨_, rfl, 1, rfl, D, _, _, _, rfl, rfl, SqL.of eD, last_num, ?_⟩
      have hb : num false ls.length i < 2 ^ 200 := num_big hk3 (by omega)
      refine ⟨_, rfl, .inl ⟨rfl, _, SqL.of eD⟩, _, rfl, a, _, 1, _, rfl, rfl, SqT.of (g _ _ ek), rfl, lab, _, rfl, .inr (SqT.of (g _ _ el)), _, rfl, _, _, rfl, rfl, wide_mul (a := 10) (b := 200) (by rw [List.length_map]; omega) (by rw [Int.natAbs_natCast]; exact hb) (by decide) (by decide) (by decide), D, _, _, rfl, rfl, eD, small' (by rw [hnl]; omega), _, _, rfl, same_fresh hD g, ?_⟩
      rw [upd_same, nums, List.map_append, List.map_singleton, List.length_map, below_one]
      exact congrArg (fun z : Int => some (HO.lst (((nums _ ls.length i).map fun x => V.int (x : Nat)) ++ [V.int z]))) (Int.natCast_mul _ _).symm
    | true =>
      refine ifF (fun z => by cases z) ?_
      refine ⟨_, rfl, _, rfl, by omega, (by show (1 : Int) + (i : Int) < 2 ^ 62; omega), fun L hL => ?_⟩
      have hDL : D ≠ L := ne_of_none eD hL
      have hL0 : H L = none := g.free hL
      have hti : ((1 : Int) + (i : Int)).toNat = i + 1 := by omega
      refine lc_range (n := ((1 : Int) + (i : Int)).toNat) (fun j H2 => Same H H2 ∧ H2 D = some (.lst ((nums true ls.length i).map fun x => V.int (x : Nat))) ∧ H2 L = some (.lst (((prods true ls.length i).take j).map fun x => V.int (x : Nat))))
        ⟨g.trans (same_new hL), (by rw [upd_ne hDL]; exact eD), upd_same⟩ (fun j H2 hj p => ?_) fun H2 p => ?_
      · obtain ⟨p1, p2, p3⟩ := p
        rw [hti] at hj
        refine ⟨rfl, yes_turn ?_⟩
        have b1 : num true ls.length j < 2 ^ 200 := num_big hk3 (by omega)
        have b2 : num true ls.length (i - j) < 2 ^ 200 := num_big hk3 (by omega)
        refine ⟨_, rfl, _, rfl, D, _, _, _, rfl, rfl, SqL.of p2, at_of (j := j) (by omega) (by rw [List.getElem?_map, nums_get _ _ (by omega)] <;> rfl), ?_⟩
        refine ⟨_, rfl, _, rfl, _, _, rfl, rfl, _, rfl, _, _, rfl, rfl, D, _, _, _, rfl, rfl, SqL.of p2, at_of (j := i - j) (by omega) (by rw [List.getElem?_map, nums_get _ _ (by omega)] <;> rfl), ?_⟩
        refine ⟨_, _, rfl, rfl, wide_mul (a := 200) (b := 200) (by rw [Int.natAbs_natCast]; exact b1) (by rw [Int.natAbs_natCast]; exact b2) (by decide) (by decide) (by decide), ?_⟩
        refine ⟨_, p3, small' (by rw [List.length_map, List.length_take]; omega), same_fresh hL0 p1, (by rw [upd_ne hDL]; exact p2), ?_⟩
        rw [upd_same, List.take_add_one, prods_get (by omega), Option.toList_some, List.map_append, List.map_singleton, Int.natCast_mul]
      · obtain ⟨g2, eD2, p3⟩ := p
        rw [hti, List.take_of_length_le (by rw [prods_len]; omega)] at p3
        refine ⟨L, (prods true ls.length i).map (fun x : Nat => (x : Int)), rfl, SqL.of (by rw [List.map_map]; exact p3), ?_⟩
        have hb : below true (nums true ls.length i) < 2 ^ 200 := by
          have e := num_succ true ls.length i
          have h1 : 1 ≤ ls.length := by
            simp only [List.mem_cons, List.not_mem_nil, or_false] at hk3
            omega
          have h2 : below true (nums true ls.length i) ≤ num true ls.length (i + 1) := by
            rw [e]
            exact Nat.le_mul_of_pos_left _ h1
          omega
        have hbel : ((prods true ls.length i).map (fun x : Nat => (x : Int))).sum = ((below true (nums true ls.length i) : Nat) : Int) := by
          rw [sum_cast]
          rfl
        refine ⟨_, rfl, .inl ⟨rfl, _, SqL.of eD2⟩, _, rfl, a, _, 1, _, rfl, rfl, SqT.of (g2 _ _ ek), rfl, lab, _, rfl, .inr (SqT.of (g2 _ _ el)), _, rfl, _, _, rfl, rfl, wide_mul (a := 10) (b := 200) (by rw [List.length_map]; omega) (by rw [hbel, Int.natAbs_natCast]; exact hb) (by decide) (by decide) (by decide), D, _, _, rfl, rfl, eD2, small' (by rw [hnl]; omega), _, _, rfl, same_fresh hD g2, ?_⟩
        rw [upd_same, nums, List.map_append, List.map_singleton, List.length_map]
        exact congrArg (fun z : Int => some (HO.lst (((nums _ ls.length i).map fun x => V.int (x : Nat)) ++ [V.int z]))) (by rw [hbel]; exact (Int.natCast_mul _ _).symm)
  · obtain ⟨y3, y4, rfl, g, eD⟩ := p
    have e : ((n : Int) + 1 - 1).toNat = n := by omega
    rw [e] at eD
    refine ⟨_, rfl, _, rfl, D, _, _, _, rfl, rfl, SqL.of eD, at_of rfl (by rw [List.getElem?_map, nums_get _ _ (Nat.le_refl n)] <;> rfl), q _ g⟩
end
end K02

set_option Elab.async false
set_option linter.all false
set_option maxRecDepth 100000
set_option maxHeartbeats 2000000
namespace K02
open PySem PySem.Spec PyProof.Rows L2 XC XK XL LamX
/-! ### a def whose code object's address is known -/
structure FunC (K : PySem.W.Frag) (x qual : Str) (st : Stmt) (f : Addr) (fd : FuncData) (c : Addr) : Prop where
  ex : ∃ (oc : Value) (od : Option Addr) (kV doc pm : Value) (an : Option Addr) (ct : Value) (osl : Array (Option Value)),
    fd = PySem.W.fnOf x qual (defArgs st) (defBody st) (defScope st) .none kV doc pm an (.ref c) ct ∧ K.lookup f = some ⟨oc, od, .func fd, osl⟩ ∧ PySem.W.codeIn K (.ref c) qual = true
  kp : PySem.W.keepIn K (.ref f) = true
theorem FunC.ok {P : Program} {w : World} {K : PySem.W.Frag} {mg : Str → Option Value} {base : Heap} {x qual : Str} {st : Stmt} {f c : Addr} {fd : FuncData} {N ps : List Str} {k : Nat} {sp : Sp} (F : FunC K x qual st f fd c) (S : FnScope N ps (defScope st)) (len : ∀ vs H Q E, sp vs H Q E → vs.length = ps.length)
    (hbody : ∀ (A : Around) (outer : List Env) (s : Shared) (H : Hp) (vs : List V) (Q : VK) (E : XK), Room k (A.deeper (envOfC qual (defScope st) s.heap.objs.size f (.ref c))) → sp vs H Q E →
      ∃ t, PSs (cxOf CX0 P w K mg base N qual (defScope st) f (.ref c) A outer s H E).nox (defBody st) t ∧ t { nx := fun _ H' => Q .non H', rt := Q } (L2.start N vs) H) : FnOk P w K mg base CX0 (k + 1) f fd ps sp := by
  obtain ⟨oc, od, kV, doc, pm, an, ct, osl, rfl, lk, hcd⟩ := F.ex
  refine fn_of lk hcd S len fun A outer s H vs Q E hr hsp => ?_
  obtain ⟨t, h, q⟩ := hbody A outer s H vs Q E hr hsp
  exact ⟨t, h.nox, q⟩
/-! ### a comprehension that makes shapes out of the shapes of a list -/
theorem lc_shapes {K : PySem.W.Frag} {a L : Addr} {i : Nat} {vs : List Nat} {σ : L2.St} {te : TE} {H2 : Hp} {as2 : List Addr} {S2 : List Sh} {mk : Sh → Sh} {pre : List V} {Qd : Hp → Prop} (hL : H2 L = none) (ea : H2 a = some (.lst (as2.map V.ref))) (ra : Reps H2 as2 S2) (hz : S2.length ≤ 900)
    (hw : ∀ c : Addr, wipe ((wipe σ vs).set i (some (.ref c))) vs = wipe σ vs) (hte : ∀ (c : Addr) (H' : Hp) (Q : VK), (∀ t, H' t = none → Q (.ref t) (upd H' t (.tup (pre ++ [.ref c])))) → te ((wipe σ vs).set i (some (.ref c))) H' Q)
    (hmk : ∀ (H' : Hp) (c t : Addr) (s : Sh), Same H2 H' → Rep H' c s → H' t = some (.tup (pre ++ [.ref c])) → Rep H' t (mk s)) (fin : ∀ H3 cs, Same H2 H3 → H3 L = some (.lst (cs.map V.ref)) → Reps H3 cs (S2.map mk) → Qd H3) :
    ∃ W : Nat → Nat → Hp → Prop, (∃ m, W 0 m (upd H2 L (.lst []))) ∧ ∀ i' m H, W i' m H →
      ((Itl K a).stop i' H ∧ Qd H) ∨ ((Itl K a).go i' H ∧ ∃ Nx : Hp → Prop, (∀ H', Nx H' → ∃ m', m' < m ∧ W (i' + 1) m' H') ∧ ∀ x H', (Itl K a).yld i' H x H' → gName i x (wipe σ vs) H' fun σ2 H2 => wipe σ2 vs = wipe σ vs ∧ tYes σ2 H2 fun b H3 =>
        if b = true then te σ2 H3 fun y H4 => ∃ acc, H4 L = some (.lst acc) ∧ acc.length < sizeLine ∧ Nx (upd H4 L (.lst (acc ++ [y]))) else Nx H3) := by
  refine lc_list (xs := as2.map V.ref) (fun j H3 => Same H2 H3 ∧ ∃ cs, H3 L = some (.lst (cs.map V.ref)) ∧ Reps H3 cs ((S2.take j).map mk)) ⟨same_new hL, [], upd_same, True.intro⟩ (fun j H3 hj p => SqL.of (p.1 _ _ ea)) (fun j x H3 hx p => ?_) fun H3 p => ?_
  · obtain ⟨g, cs, eL, r⟩ := p
    obtain ⟨c, hc, rfl⟩ := ref_at hx
    obtain ⟨s, hs, rc⟩ := ra.get' hc
    have hj := (List.getElem?_eq_some_iff.mp hs).1
    refine ⟨hw c, yes_turn (hte c H3 _ fun t ht => ?_)⟩
    have hLt : L ≠ t := ne_of_none eL ht
    have gt := same_new (o := .tup (pre ++ [.ref c])) ht
    have bt : But L (upd H3 t (.tup (pre ++ [.ref c]))) (upd (upd H3 t (.tup (pre ++ [.ref c]))) L (.lst (cs.map V.ref ++ [V.ref t]))) := (But.refl _ _).upd
    refine ⟨_, gt _ _ eL, small' (by rw [List.length_map, r.len, List.length_map, List.length_take]; omega), same_fresh hL (g.trans gt), cs ++ [t], ?_, ?_⟩
    · rw [upd_same, List.map_append]
      rfl
    · rw [List.take_add_one, hs, Option.toList_some, List.map_append, List.map_singleton]
      exact ((r.same gt).mono fun q => q.but1 (gt _ _ eL) bt).snoc ((hmk _ c t s (g.trans gt) ((rc.same g).same gt) upd_same).but1 (gt _ _ eL) bt)
  · obtain ⟨g, cs, eL, r⟩ := p
    rw [List.length_map, ra.len, List.take_length] at r
    exact fin H3 cs g eL r
/-- a list that grows anew at each step: R is still to come -/
def Fd (total R : List Sh) (fa : Addr) (H : Hp) : Prop := ∃ as S, H fa = some (.lst (as.map V.ref)) ∧ Reps H as S ∧ S ++ R = total
theorem Fd.same {total R : List Sh} {fa : Addr} {H H' : Hp} (g : Same H H') (h : Fd total R fa H) : Fd total R fa H' := by
  obtain ⟨as, S, a, b, c⟩ := h
  exact ⟨as, S, g _ _ a, b.same g, c⟩
theorem Fd.to {total R R' : List Sh} {fa : Addr} {H : Hp} (h : Fd total R fa H) (e : R = R') : Fd total R' fa H := e ▸ h
/-- found + [..] -/
theorem Fd.cat {total R S2 : List Sh} {fa L : Addr} {H : Hp} {cs : List Addr} {Q : VK} (h : Fd total (S2 ++ R) fa H) (h300 : total.length ≤ 300) (eL : H L = some (.lst (cs.map V.ref))) (rc : Reps H cs S2) (q : ∀ p, H p = none → ∀ H', Same H H' → Fd total R p H' → Q (.ref p) H') : rCat (.ref fa) (.ref L) H Q := by
  obtain ⟨as, S, a, b, c⟩ := h
  refine ⟨fa, L, _, _, rfl, rfl, a, eL, ?_, fun p hp => q p hp _ (same_new hp) ⟨as ++ cs, S ++ S2, ?_, (b.append rc).same (same_new hp), by rw [List.append_assoc]; exact c⟩⟩
  · rw [List.length_map, List.length_map, b.len, rc.len]
    have := congrArg List.length c
    rw [List.length_append, List.length_append] at this
    exact small (by omega)
  · rw [upd_same, List.map_append]
abbrev sLAll : Stmt := top 29
def NAll : List Str := ["kind", "count", "sizes", "total", "found", "label", "left", "first", "child", "second"]
theorem scLAll : FnScope NAll ["kind", "count"] (defScope sLAll) := ⟨rfl, rfl, rfl, by decide +kernel, rfl, by decide +kernel, by decide +kernel⟩
def lamOf : Stmt → Option Expr
  | .Return (some (.Call _ _ [k] _)) _ => some k.value
  | _ => none
def lamP : Option Expr → Arguments
  | some (.Lambda p _ _ _) => p
  | _ => ⟨[], [], none, [], [], none, []⟩
def lamB : Option Expr → Expr
  | some (.Lambda _ b _ _) => b
  | _ => .Name "" ⟨0, 0, 0, 0⟩
def lamS : Option Expr → Scope
  | some (.Lambda _ _ s _) => s
  | _ => defScope sLAll
abbrev lam : Option Expr := lamOf ((defBody sLAll).getD 2 (.Pass ⟨0, 0, 0, 0⟩))
theorem scLam : FnScope ["shape"] ["shape"] (lamS lam) := ⟨rfl, rfl, rfl, by decide +kernel, rfl, by decide +kernel, by decide +kernel⟩
def lamQ : Str := (envOfC "_law_all" (defScope sLAll) 0 0 .none).qual ++ "<lambda>"
section
variable {P : Program} {w : World} {K : PySem.W.Frag} {mg : Str → Option Value} {base : Heap}
theorem lam_key {X : Cx} {g : Addr} {gd : FuncData} {n : Nat} (hX : X.prog = P) (G : FnOk X.prog X.w X.K X.mg X.base CX0 n g gd ["shape"] (spLText n)) (bG : Binds X.K gd ["shape"] []) (kG : PySem.W.keepIn X.K (.ref g) = true) (mG : X.mg "_law_text" = some (.ref g)) (f : Addr) :
    KeyOk X (n + 1) [] (.ref f) (fun x H Q => ∃ c', H f = some (FunO f lamQ (lamP lam) (lamB lam) (lamS lam) c') ∧ H c' = some (CodeO c' lamQ) ∧ spLText n [x] H Q E0) :=
  keyOk_lam (sp := fun x H Q => spLText n [x] H Q E0) scLam (fun _ _ _ _ => rfl) (fun f c' A outer s H x Q hr h => ⟨_, pe_call G hr (by rfl) mG kG bG .nil pass0 (pa_cons (pv 0) pa_nil), ⟨_, rfl, h⟩⟩) f
end
end K02

set_option Elab.async false
set_option linter.all false
set_option maxRecDepth 100000
set_option maxHeartbeats 4000000
namespace K02
open PySem PySem.Spec PyProof.Rows L2 XC XK XL LamX
def spLAll (Pt : Addr) : Sp := fun vs H Q _ => ∃ (k : Addr) (two : Bool) (ls : List Str) (n : Nat), vs = [.ref k, .int n] ∧ KindAt H k two ls ∧ n ≤ 30 ∧ num two ls.length n ≤ 300 ∧ H Pt = some (.tbl #[]) ∧
  ∀ H' q as S, ExtN H H' → H' q = some (.lst (as.map V.ref)) → Reps H' as S → IsSort text S (lists two ls n) → Q (.ref q) H'
def eW : TE := tTup (tCons (tVar 5) (tCons (tVar 8) tNil))
def eT : TE := tTup (tCons (tVar 5) (tCons (tVar 7) (tCons (tVar 9) tNil)))
def Fl (two : Bool) (tb : List (List Sh)) (l : Str) : List Sh := if two then tr0 tb l else (tb.getLast?.getD []).map (Sh.word l)
theorem step_fl (two : Bool) (ls : List Str) (tb : List (List Sh)) : step two ls tb = ls.flatMap (Fl two tb) := by cases two <;> rfl
theorem last_lists (two : Bool) (ls : List Str) (i : Nat) : (table two ls i).getLast?.getD [] = lists two ls i := by
  rw [List.getLast?_eq_getElem?, table_len, Nat.add_sub_cancel, lists_get]
  rfl
theorem table_lists (two : Bool) (ls : List Str) {n i : Nat} (h : i ≤ n) : (table two ls n)[i]? = some (lists two ls i) := by
  induction h with
  | refl => exact lists_get two ls i
  | @step m h ih => rw [table, List.getElem?_append_left (by rw [table_len]; exact Nat.lt_succ_of_le h), ih]
/-- the list of size j -/
theorem TableAt.lists {H : Hp} {bs : List Addr} {two : Bool} {ls : List Str} {i j : Nat} (h : TableAt H bs (table two ls i)) (hj : j ≤ i) : ∃ b as, bs[j]? = some b ∧ H b = some (.lst (as.map V.ref)) ∧ Reps H as (lists two ls j) := by
  have hb : j < bs.length := by rw [h.1, table_len]; omega
  obtain ⟨as, a, r⟩ := h.2 j _ _ (List.getElem?_eq_getElem hb) (table_lists two ls hj)
  exact ⟨_, as, List.getElem?_eq_getElem hb, a, r⟩
theorem zip_lists (two : Bool) (ls : List Str) {i u : Nat} (h : u ≤ i) : ((table two ls i).zip (table two ls i).reverse)[u]? = some (lists two ls u, lists two ls (i - u)) :=
  List.getElem?_zip_eq_some.mpr ⟨table_lists two ls h, by rw [List.getElem?_reverse (by rw [table_len]; omega), table_len, show i + 1 - 1 - u = i - u by omega]; exact table_lists two ls (by omega)⟩
section
variable {P : Program} {w : World} {K : PySem.W.Frag} {mg : Str → Option Value} {base : Heap}
theorem ok_lall {f g c Pt : Addr} {fd gd : FuncData} (F : FunC K "_law_all" "_law_all" sLAll f fd c) (TB : TabB base mg c Pt) (G : FnOk P w K mg base CX0 31 g gd ["shape"] (spLText 31)) (bG : Binds K gd ["shape"] []) (kG : PySem.W.keepIn K (.ref g) = true) (mG : mg "_law_text" = some (.ref g)) (mr : mg "range" = none) (ms : mg "sorted" = none) :
    FnOk P w K mg base CX0 35 f fd ["kind", "count"] (spLAll Pt) := by
  refine F.ok scLAll (fun vs H Q E h => ?_) (fun A outer s H vs Q E hr h => ?_)
  · obtain ⟨a, two, ls, n, rfl, _⟩ := h
    rfl
  obtain ⟨a, two, ls, n, rfl, hK, hn, h300, hPt, q⟩ := h
  refine ⟨_, pss_cons (ps_set (i := 2) scLAll.nd rfl (Or.inl rfl) (pe_lst (pa_cons (pe_lst (pa_cons (pe_tup pa_nil) pa_nil)) pa_nil)))
    (pss_cons (ps_for PassesOwn.never rfl (pi_range2 (by rfl) mr (pa_cons pe_int (pa_cons (pe_op op_add (pv 1) pe_int) pa_nil))) (pg_name (i := 3) scLAll.nd rfl (Or.inl rfl))
      (pss_cons (ps_set (i := 4) scLAll.nd rfl (Or.inl rfl) (pe_lst pa_nil))
      (pss_cons (ps_for PassesOwn.never rfl (pi_tup (pe_ix ix_tup (pv 0) pe_int (fun _ _ => rfl))) (pg_name (i := 5) scLAll.nd rfl (Or.inr rfl))
        (pss_one (ps_if (pt_cmpR op_eq (pe_ix ix_tup (pv 0) pe_int (fun _ _ => rfl)) pe_int (nomark _))
          (pss_one (ps_set (i := 4) scLAll.nd rfl (Or.inl rfl) (pe_op op_cat (pv 4) (pe_lc (own := [("child", 8)]) (g := gName 8) (tt := tYes) (te := eW) rfl scLAll.nd (pi_list (pe_ix ix_list (pv 2) (pe_op op_sub (pv 3) pe_int) (fun _ _ => rfl)))
            (blkOk_by (own := [("child", 8)]) (N := NAll) (sc := defScope sLAll) (by decide +kernel)) (fun _ _ _ _ _ => pg_name (i := 8) scLAll.nd rfl (Or.inl rfl)) (fun _ _ _ _ _ => pts_nil) (fun _ _ _ _ _ => pe_tup (pa_cons (pv 5) (pa_cons (pv 8) pa_nil)))))))
          (pss_one (ps_for PassesOwn.never rfl (pi_range1 (by rfl) mr (pa_cons (pv 3) pa_nil)) (pg_name (i := 6) scLAll.nd rfl (Or.inl rfl))
            (pss_one (ps_for PassesOwn.never rfl (pi_list (pe_ix ix_list (pv 2) (pv 6) (fun _ _ => rfl))) (pg_name (i := 7) scLAll.nd rfl (Or.inr rfl))
              (pss_one (ps_set (i := 4) scLAll.nd rfl (Or.inl rfl) (pe_op op_cat (pv 4) (pe_lc (own := [("second", 9)]) (g := gName 9) (tt := tYes) (te := eT) rfl scLAll.nd (pi_list (pe_ix ix_list (pv 2) (pe_op op_sub (pe_op op_sub (pv 3) pe_int) (pv 6)) (fun _ _ => rfl)))
                (blkOk_by (own := [("second", 9)]) (N := NAll) (sc := defScope sLAll) (by decide +kernel)) (fun _ _ _ _ _ => pg_name (i := 9) scLAll.nd rfl (Or.inl rfl)) (fun _ _ _ _ _ => pts_nil) (fun _ _ _ _ _ => pe_tup (pa_cons (pv 5) (pa_cons (pv 7) (pa_cons (pv 9) pa_nil)))))))))))))))
      (pss_one (ps_expr (pe_bm PySem.F.plainAttrs_list PySem.F.slot_list_append PySem.F.type_list_append mt_append (pv 2) (pa_cons (pv 4) pa_nil)))))))
    (pss_one (ps_ret (pe_callBK (cr_sortKey (lam_key (P := P) rfl G bG kG mG) hr rfl) (by rfl) ms (by decide +kernel) (pa_cons (pe_ix ix_list (pv 2) (pv 1) (fun _ _ => rfl)) pa_nil)
      (pk_cons (pe_lamV (T := [(Pt, lamQ)]) TB rfl rfl (List.mem_singleton.mpr rfl) (fun p hp _ => congrArg (·.2) (List.mem_singleton.mp hp)) rfl (by decide +kernel)) pk_nil))))), ?_⟩
  have hKK := hK
  obtain ⟨lab, ek, el, hls⟩ := hKK
  have hk3 := ls_len hls
  refine ⟨(by show 0 ≤ sizeLine; exact Nat.zero_le _), fun t ht => ⟨(by show 1 ≤ sizeLine; exact small (by decide)), fun L hL => ⟨(by show 1 ≤ sizeLine; exact small (by decide)), fun D hD => ?_⟩⟩⟩
  have g3 : Same H (upd H t (.tup [])) := same_new ht
  have g4 : Same (upd H t (.tup [])) (upd (upd H t (.tup [])) L (.lst [.ref t])) := same_new hL
  have g5 := same_new (o := .lst [.ref L]) hD
  have gH := (g3.trans g4).trans g5
  have hD0 : H D = none := (g3.trans g4).free hD
  refine ⟨_, rfl, _, _, rfl, rfl, 1, (n : Int) + 1, rfl, by omega, ?_⟩
  refine for_range (lo := 1) (n := ((n : Int) + 1 - 1).toNat) (fun i σ H1 => ∃ (y3 y4 y5 y6 y7 : Option V) (bs : List Addr), σ = [some (.ref a), some (.int n), some (.ref D), y3, y4, y5, y6, y7, none, none] ∧ Same H H1 ∧ H1 D = some (.lst (bs.map V.ref)) ∧ TableAt H1 bs (table two ls i) ∧ D ∉ bs) ?_ (fun i σ H1 hi p => ?_) fun σ H1 p => ?_
  · refine ⟨none, none, none, none, none, [L], rfl, gH, upd_same, ⟨rfl, fun i b S e1 e2 => ?_⟩, ?_⟩
    · cases i with
      | zero =>
        obtain rfl : L = b := Option.some.inj e1
        obtain rfl : [Sh.nil] = S := Option.some.inj e2
        exact ⟨[t], g5 _ _ upd_same, .nil (g5 _ _ (g4 _ _ upd_same)), True.intro⟩
      | succ i => simp at e1
    · intro z
      rw [List.mem_singleton] at z
      rw [z, upd_same] at hD
      cases hD
  · obtain ⟨y3, y4, y5, y6, y7, bs, rfl, g, eD, hT, hb⟩ := p
    have hin : i < n := by omega
    have hst : (step two ls (table two ls i)).length ≤ 300 := by
      rw [← lists_succ, lists_len]
      exact Nat.le_trans (num_mono hk3 hin hn) h300
    refine ⟨(by show 0 ≤ sizeLine; exact Nat.zero_le _), fun f0 hf0 => ?_⟩
    have ga := same_new (o := .lst []) hf0
    generalize hHa : upd H1 f0 (.lst []) = Ha at *
    have gHa : Same H Ha := g.trans ga
    refine ⟨_, rfl, a, _, 1, _, rfl, rfl, SqT.of (gHa _ _ ek), rfl, lab, rfl, ⟨_, SqT.of (gHa _ _ el)⟩, ?_⟩
    refine for_tup (xs := ls.map V.str) (fun j σ H2 => ∃ (y5 y6 y7 : Option V) (fa : Addr), σ = [some (.ref a), some (.int n), some (.ref D), some (.int (1 + (i : Int))), some (.ref fa), y5, y6, y7, none, none] ∧ fa ≠ D ∧ Same Ha H2 ∧ Fd (step two ls (table two ls i)) ((ls.drop j).flatMap (Fl two (table two ls i))) fa H2)
      ⟨y5, y6, y7, f0, rfl, (ne_of_none eD hf0).symm, Same.refl _, [], [], by rw [← hHa, upd_same]; rfl, True.intro, (step_fl two ls _).symm⟩ (fun j σ H2 hj p => ?_) (fun j x σ H2 hx p => ?_) fun σ H2 p => ?_
    · obtain ⟨_, _, _, _, _, _, g2, _⟩ := p
      exact SqT.of (g2 _ _ (gHa _ _ el))
    · obtain ⟨y5, y6, y7, fa, rfl, hfD, g2, fd2⟩ := p
      rw [List.getElem?_map] at hx
      obtain ⟨l, hl, rfl⟩ : ∃ l, ls[j]? = some l ∧ x = V.str l := by
        cases z : ls[j]? with
        | none => rw [z] at hx; cases hx
        | some l => rw [z] at hx; exact ⟨l, rfl, (Option.some.inj hx).symm⟩
      rw [drop_at hl, List.flatMap_cons] at fd2
      have gg := gHa.trans g2
      have g12 := ga.trans g2
      have eD2 := g12 _ _ eD
      have hT2 := hT.same g12
      generalize (ls.drop (j + 1)).flatMap (Fl two (table two ls i)) = R1 at fd2 ⊢
      refine ⟨_, rfl, a, _, 0, _, rfl, rfl, SqT.of (gg _ _ ek), rfl, rfl, _, rfl, ?_⟩
      cases two with
      | false =>
        refine ifT rfl ?_
        rw [show Fl false (table false ls i) l = (lists false ls i).map (Sh.word l) by unfold Fl; simp only [Bool.false_eq_true, if_false]; rw [last_lists]] at fd2
        obtain ⟨b, as2, hb2, ea2, ra2⟩ := hT2.lists (Nat.le_refl i)
        have hz : (lists false ls i).length ≤ 900 := by
          rw [lists_len]
          have := num_mono (two := false) hk3 (Nat.le_of_lt hin) hn
          omega
        refine ⟨_, rfl, _, rfl, _, rfl, _, _, rfl, rfl, D, _, _, _, rfl, rfl, SqL.of eD2, at_of (j := i) (by omega) (by rw [List.getElem?_map, hb2] <;> rfl), b, rfl, ⟨_, SqL.of ea2⟩, fun L2 hL2 => ?_⟩
        refine lc_shapes (S2 := lists false ls i) (mk := Sh.word l) (pre := [.str l]) hL2 ea2 ra2 hz (fun _ => rfl) (fun c H' Q h => ⟨_, rfl, _, rfl, (by show 2 ≤ sizeLine; exact small (by decide)), h⟩) (fun H' c t s _ r e => .word e r) fun H3 cs g3 e3 r3 => ?_
        exact Fd.cat (fd2.same g3) hst e3 r3 fun p hp H4 g4 fd4 => ⟨_, y6, y7, p, rfl, (ne_of_none (g3 _ _ eD2) hp).symm, (g2.trans g3).trans g4, fd4⟩
      | true =>
        refine ifF (fun z => by cases z) ?_
        refine ⟨_, rfl, _, rfl, by omega, (by show (1 : Int) + (i : Int) < 2 ^ 62; omega), ?_⟩
        have hti : ((1 : Int) + (i : Int)).toNat = i + 1 := by omega
        refine for_range (n := ((1 : Int) + (i : Int)).toNat) (fun u σ H3 => ∃ (y6 y7 : Option V) (fa : Addr), σ = [some (.ref a), some (.int n), some (.ref D), some (.int (1 + (i : Int))), some (.ref fa), some (.str l), y6, y7, none, none] ∧ fa ≠ D ∧ Same Ha H3 ∧
          Fd (step true ls (table true ls i)) (((((table true ls i).zip (table true ls i).reverse).drop u).flatMap (tr1 l)) ++ R1) fa H3) ⟨y6, y7, fa, rfl, hfD, g2, fd2⟩ (fun u σ H3 hu p => ?_) fun σ H3 p => ?_
        · obtain ⟨y6, y7, fa, rfl, hfD, g3, fd3⟩ := p
          rw [hti] at hu
          have g13 := ga.trans g3
          have hT3 := hT.same g13
          rw [drop_at (zip_lists true ls (show u ≤ i by omega)), List.flatMap_cons, List.append_assoc] at fd3
          generalize ((((table true ls i).zip (table true ls i).reverse).drop (u + 1)).flatMap (tr1 l)) ++ R1 = R2 at fd3 ⊢
          obtain ⟨b1, as1, hb1, ea1, ra1⟩ := hT3.lists (show u ≤ i by omega)
          refine ⟨_, rfl, _, rfl, D, _, _, _, rfl, rfl, SqL.of (g13 _ _ eD), at_of (j := u) (by omega) (by rw [List.getElem?_map, hb1] <;> rfl), b1, rfl, ⟨_, SqL.of ea1⟩, ?_⟩
          refine for_list (xs := as1.map V.ref) (fun v σ H4 => ∃ (y7 : Option V) (fa : Addr), σ = [some (.ref a), some (.int n), some (.ref D), some (.int (1 + (i : Int))), some (.ref fa), some (.str l), some (.int (0 + (u : Int))), y7, none, none] ∧ fa ≠ D ∧ Same H3 H4 ∧
            Fd (step true ls (table true ls i)) ((((lists true ls u).drop v).flatMap fun x => (lists true ls (i - u)).map (Sh.tree l x)) ++ R2) fa H4) ⟨y7, fa, rfl, hfD, Same.refl _, fd3⟩ (fun v σ H4 hv p => ?_) (fun v x σ H4 hx p => ?_) fun σ H4 p => ?_
          · obtain ⟨_, _, _, _, g4, _⟩ := p
            exact SqL.of (g4 _ _ ea1)
          · obtain ⟨y7, fa, rfl, hfD, g4, fd4⟩ := p
            obtain ⟨c1, hc1, rfl⟩ := ref_at hx
            obtain ⟨s1, hs1, rc1⟩ := ra1.get' hc1
            rw [drop_at hs1, List.flatMap_cons, List.append_assoc] at fd4
            generalize (((lists true ls u).drop (v + 1)).flatMap fun x => (lists true ls (i - u)).map (Sh.tree l x)) ++ R2 = R3 at fd4 ⊢
            have g14 := g13.trans g4
            obtain ⟨b2, as2, hb2, ea2, ra2⟩ := (hT.same g14).lists (show i - u ≤ i by omega)
            have hz : (lists true ls (i - u)).length ≤ 900 := by
              rw [lists_len]
              have := num_mono (two := true) hk3 (show i - u ≤ n by omega) hn
              omega
            refine ⟨_, rfl, _, rfl, _, rfl, _, _, rfl, rfl, _, rfl, _, _, rfl, rfl, D, _, _, _, rfl, rfl, SqL.of (g14 _ _ eD), at_of (j := i - u) (by omega) (by rw [List.getElem?_map, hb2] <;> rfl), b2, rfl, ⟨_, SqL.of ea2⟩, fun L2 hL2 => ?_⟩
            refine lc_shapes (S2 := lists true ls (i - u)) (mk := Sh.tree l s1) (pre := [.str l, .ref c1]) hL2 ea2 ra2 hz (fun _ => rfl) (fun c H' Q h => ⟨_, rfl, _, rfl, _, rfl, (by show 3 ≤ sizeLine; exact small (by decide)), h⟩) (fun H' c t s g5 r e => .tree e ((rc1.same g4).same g5) r) fun H5 cs g5 e5 r5 => ?_
            exact Fd.cat (fd4.same g5) hst e5 r5 fun p hp H6 g6 fd6 => ⟨_, p, rfl, (ne_of_none (g5 _ _ (g14 _ _ eD)) hp).symm, (g4.trans g5).trans g6, fd6⟩
          · obtain ⟨y7, fa, rfl, hfD, g4, fd4⟩ := p
            rw [List.length_map, ra1.len, List.drop_length] at fd4
            exact ⟨_, y7, fa, rfl, hfD, g3.trans g4, fd4⟩
        · obtain ⟨y6, y7, fa, rfl, hfD, g3, fd3⟩ := p
          rw [hti, List.drop_eq_nil_of_le (by rw [List.length_zip, List.length_reverse, table_len]; omega)] at fd3
          exact ⟨_, y6, y7, fa, rfl, hfD, g3, fd3⟩
    · obtain ⟨y5, y6, y7, fa, rfl, hfD, g2, fd2⟩ := p
      rw [List.length_map, List.drop_length, List.flatMap_nil] at fd2
      obtain ⟨as, S, ef, rf, et⟩ := fd2
      rw [List.append_nil] at et
      subst et
      have g12 := ga.trans g2
      refine ⟨_, rfl, .inl ⟨rfl, _, SqL.of (g12 _ _ eD)⟩, _, rfl, D, _, _, rfl, rfl, g12 _ _ eD, small' (by rw [List.length_map, hT.1, table_len]; omega), _, _, _, _, _, bs ++ [fa], rfl, same_fresh hD0 (gHa.trans g2), ?_, ?_, ?_⟩
      · rw [upd_same, List.map_append]
        rfl
      · exact ((hT.same g12).push ef rf).put (g12 _ _ eD) (fun z => by
          rcases List.mem_append.mp z with z | z
          · exact hb z
          · exact hfD (List.mem_singleton.mp z).symm) _
      · intro z
        rcases List.mem_append.mp z with z | z
        · exact hb z
        · exact hfD (List.mem_singleton.mp z).symm
  · obtain ⟨y3, y4, y5, y6, y7, bs, rfl, g, eD, hT, hb⟩ := p
    rw [show ((n : Int) + 1 - 1).toNat = n by omega] at hT
    obtain ⟨bl, as, hbl, ea, ra⟩ := hT.lists (Nat.le_refl n)
    refine ⟨_, rfl, _, rfl, D, _, _, _, rfl, rfl, SqL.of eD, at_of rfl (by rw [List.getElem?_map, hbl] <;> rfl), ?_⟩
    refine ⟨fun p hp => ?_, fun H2 f' c' ext tabs n1 n2 ec => ?_⟩
    · rw [List.mem_singleton.mp hp]
      exact TabS.nil (g _ _ hPt)
    · have hcf : c' ≠ f' := ne_of_none ec n1
      have g2 := same_new (o := FunO f' lamQ (lamP lam) (lamB lam) (lamS lam) c') n1
      have eH : ExtN H1 (upd H2 f' (FunO f' lamQ (lamP lam) (lamB lam) (lamS lam) c')) := ext.trans (ExtN.of g2)
      refine ⟨bl, f', rfl, rfl, as, fun x => text (shAt H1 x), fun _ H3 => Same (upd H2 f' (FunO f' lamQ (lamP lam) (lamB lam) (lamS lam) c')) H3, SqL.of (eH bl _ ea (fun _ z => by cases z)), Same.refl _, fun i x H3 hx g3 => ?_, fun H3 ys p g3 hs hp _ => ?_⟩
      · obtain ⟨s', hs', r⟩ := ra.get' hx
        have fit := lists_fit hls n s' (List.mem_of_getElem? hs')
        refine ⟨c', g3 _ _ upd_same, g3 _ _ (by rw [upd_ne hcf]; exact ec), x, s', rfl, (r.ext eH).same g3, by omega, by omega, fit.2, fun H4 g4 => ⟨?_, g3.trans g4⟩⟩
        show V.str (text s') = V.str (text (shAt H1 x))
        rw [shAt_eq r]
      · have gp := g3.trans (same_new (o := .lst (ys.map V.ref)) hp)
        obtain ⟨z1, z2⟩ := sorted_reps (H' := upd H3 p (.lst (ys.map V.ref))) ra (fun r => (r.ext eH).same gp) hs
        exact q _ p ys _ ((ExtN.of g).trans (eH.trans (ExtN.of gp))) upd_same z1 z2
end
end K02

set_option Elab.async false
set_option linter.all false
set_option maxRecDepth 100000
set_option maxHeartbeats 4000000
namespace K02
open PySem PySem.Spec PyProof.Rows L2 XC XK XL LamX
theorem eqd_rep {K : PySem.W.Frag} {H : Hp} : ∀ {t : Sh} {a b : Addr} {m : Nat}, Rep H a t → Rep H b t → t.count + 1 ≤ m → Eqd K H (m + 1) (.ref a) (.ref b)
  | .nil, a, b, m, .nil h1, .nil h2, _ => .tup (SqT.of h1) (SqT.of h2) rfl (by show 0 ≤ 1000; decide) fun i x y e _ => by simp at e
  | .word l t, a, b, m + 1, .word h1 r1, .word h2 r2, hm => .tup (SqT.of h1) (SqT.of h2) rfl (by show 2 ≤ 1000; decide) fun i x y e1 e2 => by
    simp only [Sh.count] at hm
    match i, e1, e2 with
    | 0, e1, e2 =>
      obtain rfl : V.str l = x := Option.some.inj e1
      obtain rfl : V.str l = y := Option.some.inj e2
      exact .str _ _
    | 1, e1, e2 =>
      obtain rfl : V.ref _ = x := Option.some.inj e1
      obtain rfl : V.ref _ = y := Option.some.inj e2
      exact eqd_rep r1 r2 (by omega)
    | i + 2, e1, e2 => simp at e1
  | .tree l t u, a, b, m + 1, .tree h1 r1 s1, .tree h2 r2 s2, hm => .tup (SqT.of h1) (SqT.of h2) rfl (by show 3 ≤ 1000; decide) fun i x y e1 e2 => by
    simp only [Sh.count] at hm
    match i, e1, e2 with
    | 0, e1, e2 =>
      obtain rfl : V.str l = x := Option.some.inj e1
      obtain rfl : V.str l = y := Option.some.inj e2
      exact .str _ _
    | 1, e1, e2 =>
      obtain rfl : V.ref _ = x := Option.some.inj e1
      obtain rfl : V.ref _ = y := Option.some.inj e2
      exact eqd_rep r1 r2 (by omega)
    | 2, e1, e2 =>
      obtain rfl : V.ref _ = x := Option.some.inj e1
      obtain rfl : V.ref _ = y := Option.some.inj e2
      exact eqd_rep s1 s2 (by omega)
    | i + 3, e1, e2 => simp at e1
abbrev sLaw : Stmt := top 31
theorem scLaw : FnScope ["script", "tape", "kind", "count", "number", "found"] ["script"] (defScope sLaw) := ⟨rfl, rfl, rfl, by decide +kernel, rfl, by decide +kernel, by decide +kernel⟩
def spLaw (K : PySem.W.Frag) (Pt : Addr) : Sp := fun vs H Q _ => ∃ (a : Addr) (ns : List Int), vs = [.ref a] ∧ SqL K H a (ns.map V.int) ∧ ns.length ≤ 63 ∧ H Pt = some (.tbl #[]) ∧ ∀ H', Q (.bl true) H'
section
variable {P : Program} {w : World} {K : PySem.W.Frag} {mg : Str → Option Value} {base : Heap}
theorem ok_law {f f1 f2 f3 f4 f5 f6 f7 C Pt : Addr} {fd d1 d2 d3 d4 d5 d6 d7 : FuncData} (F : Fun K "law" "law" sLaw f fd)
    (G1 : FnOk P w K mg base CX0 1 f1 d1 ["script"] (spTape K)) (b1 : Binds K d1 ["script"] []) (k1 : PySem.W.keepIn K (.ref f1) = true) (m1 : mg "_law_tape" = some (.ref f1))
    (G2 : FnOk P w K mg base CX0 2 f2 d2 ["tape"] spLKind) (b2 : Binds K d2 ["tape"] []) (k2 : PySem.W.keepIn K (.ref f2) = true) (m2 : mg "_law_kind" = some (.ref f2))
    (G3 : FnOk P w K mg base CX0 1 f3 d3 ["tape", "many"] spTake) (b3 : Binds K d3 ["tape", "many"] []) (k3 : PySem.W.keepIn K (.ref f3) = true) (m3 : mg "_law_take" = some (.ref f3))
    (G4 : FnOk P w K mg base CX0 1 f4 d4 ["kind", "count"] spLNum) (b4 : Binds K d4 ["kind", "count"] []) (k4 : PySem.W.keepIn K (.ref f4) = true) (m4 : mg "_law_number" = some (.ref f4))
    (G5 : FnOk P w K mg base (L2.CX P w) 6 f5 d5 ["kind", "count"] (spAll C)) (b5 : Binds K d5 ["kind", "count"] []) (k5 : PySem.W.keepIn K (.ref f5) = true) (m5 : mg "all_shapes" = some (.ref f5))
    (G6 : FnOk P w K mg base CX0 35 f6 d6 ["kind", "count"] (spLAll Pt)) (b6 : Binds K d6 ["kind", "count"] []) (k6 : PySem.W.keepIn K (.ref f6) = true) (m6 : mg "_law_all" = some (.ref f6))
    (G7 : FnOk P w K mg base CX0 68 f7 d7 ["actual", "expected"] (spSame K 34)) (b7 : Binds K d7 ["actual", "expected"] []) (k7 : PySem.W.keepIn K (.ref f7) = true) (m7 : mg "_law_same" = some (.ref f7)) (T : ExcT K mg C) : FnOk P w K mg base CX0 69 f fd ["script"] (spLaw K Pt) := by
  refine F.ok scLaw (fun vs H Q E h => ?_) (fun cdv A outer s H vs Q E hr h => ?_)
  · obtain ⟨a, ns, rfl, _⟩ := h
    rfl
  obtain ⟨a, ns, rfl, hS, h63, hPt, q⟩ := h
  have hr6 : Room 6 _ := hr.mono (by decide)
  refine ⟨_, pss_cons (ps_set (i := 1) scLaw.nd rfl (Or.inl rfl) (pe_call G1 (hr.mono (by decide)) (by rfl) m1 k1 b1 .nil pass0 (pa_cons (pv 0) pa_nil)))
    (pss_cons (ps_set (i := 2) scLaw.nd rfl (Or.inl rfl) (pe_call G2 (hr.mono (by decide)) (by rfl) m2 k2 b2 .nil pass0 (pa_cons (pv 1) pa_nil)))
    (pss_cons (ps_set (i := 3) scLaw.nd rfl (Or.inl rfl) (pe_call G3 (hr.mono (by decide)) (by rfl) m3 k3 b3 .nil pass0 (pa_cons (pv 1) (pa_cons pe_int pa_nil))))
    (C8.pss_cut (ps_if (pt_cmpR op_eq (pe_call G3 (hr.mono (by decide)) (by rfl) m3 k3 b3 .nil pass0 (pa_cons (pv 1) (pa_cons pe_int pa_nil))) pe_int (nomark _))
      (pss_one (ps_set (i := 3) scLaw.nd rfl (Or.inl rfl) (pe_call G3 (hr.mono (by decide)) (by rfl) m3 k3 b3 .nil pass0 (pa_cons (pv 1) (pa_cons pe_int pa_nil))))) pss_nil)
    (pss_cons (ps_set (i := 4) scLaw.nd rfl (Or.inl rfl) (pe_call G4 (hr.mono (by decide)) (by rfl) m4 k4 b4 .nil pass0 (pa_cons (pv 2) (pa_cons (pv 3) pa_nil))))
    (pss_cons (ps_if (pt_chain op_lt op_le pe_int (pv 4) pe_int) (pss_one (ps_ret pe_bl)) pss_nil)
    (pss_cons (ps_try_only (tb := fun W => tAsg (tCallS (spAll C) (WE W) (tCons (tVar 2) (tCons (tVar 3) tNil))) (gName 5)) (ts := fun _ _ _ => tRet (tOp (rI0 fun i j => .bl (decide (j < i))) (tVar 4) (tC (.int 20000)))) (Wout := fun _ _ _ _ => False) rfl rfl ⟨rfl, by decide, Or.inl T.g⟩ L2.takes0
      (fun W pn xe tk _ => pss_one (ps_set (i := 5) scLaw.nd rfl (Or.inl rfl) (by exact (pe_callS G5 hr6 rfl m5 k5 b5 (fun σ => passAt tk σ) (by exact (pa_cons (pv 2) (pa_cons (pv 3) pa_nil)))))))
      (fun a oe cls d pn hz hf => pss_one (ps_ret (by exact (pe_cmpR op_gt (pv 4) pe_int (nomark _))))))
    (pss_one (ps_ret (pe_and (pe_cmpR op_le (pv 4) pe_int (nomark _)) (pe_one (pe_call G7 hr (by rfl) m7 k7 b7 .nil pass0 (pa_cons (pv 5) (pa_cons (pe_call G6 (hr.mono (by decide)) (by rfl) m6 k6 b6 .nil pass0 (pa_cons (pv 2) (pa_cons (pv 3) pa_nil))) pa_nil))))))))))))), ?_⟩
  refine ⟨_, rfl, a, ns, rfl, hS, h63, fun H1 t g1 ht hT1 => ?_⟩
  have hPt1 : H1 Pt = some (.tbl #[]) := g1 _ _ hPt
  have tPt : ∀ {H' : Hp}, TapeOk H' t → H' Pt = some (.tbl #[]) → Pt ≠ t := fun hT e z => by
    obtain ⟨kvs, c, T⟩ := hT
    rw [z, T.dict] at e
    cases e
  refine ⟨_, rfl, t, rfl, hT1, fun H2 k two ls b2 hT2 hK2 => ?_⟩
  have hPt2 : H2 Pt = some (.tbl #[]) := b2 _ _ (tPt hT1 hPt1) hPt1
  refine ⟨_, rfl, t, 5, rfl, hT2, by decide, by decide, fun H3 z3 b3 hT3 z30 z35 => ?_⟩
  have hPt3 : H3 Pt = some (.tbl #[]) := b3 _ _ (tPt hT2 hPt2) hPt2
  have hK3 := hK2.but hT2 b3
  refine ⟨fun σ' H' => ∃ z : Nat, σ' = [some (.ref a), some (.ref t), some (.ref k), some (.int z), none, none] ∧ z ≤ 30 ∧ KindAt H' k two ls ∧ H' Pt = some (.tbl #[]), ?_, ?_⟩
  · refine ⟨_, rfl, t, 3, rfl, hT3, by decide, by decide, fun H4 z4 b4 hT4 z40 z43 => ?_⟩
    have hPt4 : H4 Pt = some (.tbl #[]) := b4 _ _ (tPt hT3 hPt3) hPt3
    have hK4 := hK3.but hT3 b4
    refine ⟨rfl, _, rfl, ?_⟩
    refine ite2 (fun c => ?_) (fun c => ?_)
    · refine ⟨_, rfl, t, 31, rfl, hT4, by decide, by decide, fun H5 z5 b5 hT5 z50 z55 => ?_⟩
      exact ⟨z5.toNat, by rw [show ((z5.toNat : Nat) : Int) = z5 by omega]; rfl, by omega, hK4.but hT4 b5, b5 _ _ (tPt hT4 hPt4) hPt4⟩
    · exact ⟨z3.toNat, by rw [show ((z3.toNat : Nat) : Int) = z3 by omega]; rfl, by omega, hK4, hPt4⟩
  · rintro σ' H5 ⟨z, rfl, hz, hK5, hPt5⟩
    refine ⟨_, rfl, _, rfl, k, two, ls, z, rfl, hK5, hz, fun H6 g6 => ?_⟩
    have hK6 := hK5.same g6
    have hPt6 : H6 Pt = some (.tbl #[]) := g6 _ _ hPt5
    refine ⟨_, rfl, _, _, rfl, rfl, decide ((300 : Int) < (num two ls.length z : Nat)), rfl, ?_⟩
    refine ite2 (fun c1 => ?_) (fun c1 => ?_)
    · have c1' : (300 : Int) < (num two ls.length z : Nat) := of_decide_eq_true c1
      refine ⟨_, _, rfl, rfl, decide (((num two ls.length z : Nat) : Int) ≤ 20000), rfl, ?_⟩
      refine ite2 (fun c2 => ?_) (fun c2 => ?_)
      · exact q _
      · have c2' : ¬ (((num two ls.length z : Nat) : Int) ≤ 20000) := of_decide_eq_false (Bool.eq_false_iff.mpr c2)
        have big : 20000 < num two ls.length z := by omega
        refine ⟨_, rfl, _, rfl, k, two, ls, z, rfl, hK6, hz, .inr big, fun h => absurd h (by omega), fun _ H7 g7 => ⟨true, T.e, fun _ a ha => ?_, fun q => nomatch q⟩⟩
        refine ⟨_, rfl, _, _, rfl, rfl, ?_⟩
        have e : decide ((20000 : Int) < (num two ls.length z : Nat)) = true := decide_eq_true (by omega)
        show Q (V.bl (decide ((20000 : Int) < (num two ls.length z : Nat)))) H7
        rw [e]
        exact q _
    · have c1' : ¬ ((300 : Int) < (num two ls.length z : Nat)) := of_decide_eq_false (Bool.eq_false_iff.mpr c1)
      have hle : num two ls.length z ≤ 300 := by omega
      refine ⟨false, rfl, iteF' ?_⟩
      refine ⟨_, rfl, _, rfl, k, two, ls, z, rfl, hK6, hz, .inl hle, fun _ H7 p1 as1 S1 g7 e1 r1 s1 => ?_, fun h => absurd h (by omega)⟩
      have hK7 := hK6.same g7
      have hPt7 : H7 Pt = some (.tbl #[]) := g7 _ _ hPt6
      refine ⟨_, rfl, _, _, rfl, rfl, _, rfl, ifT (by omega) ?_⟩
      refine ⟨_, rfl, _, rfl, _, rfl, k, two, ls, z, rfl, hK7, hz, hle, hPt7, fun H8 p2 as2 S2 g8 e2 r2 s2 => ?_⟩
      obtain ⟨lab, _, _, hls⟩ := hK7
      have eS : S1 = S2 := s1.unique s2
      subst eS
      have e18 : H8 p1 = some (.lst (as1.map V.ref)) := g8 _ _ e1 (fun _ z => by cases z)
      have r18 : Reps H8 as1 S1 := r1.mono fun r => r.ext g8
      have hlen : S1.length ≤ 300 := by rw [s1.perm.length_eq, lists_len]; exact hle
      refine ⟨_, _, rfl, .lst (SqL.of e18) (SqL.of e2) (by rw [List.length_map, List.length_map, r18.len, r2.len]) (by rw [List.length_map, r2.len]; omega) fun i x y ex ey => ?_, q _⟩
      obtain ⟨c1, hc1, rfl⟩ := ref_at ex
      obtain ⟨c2, hc2, rfl⟩ := ref_at ey
      obtain ⟨t1, ht1, rc1⟩ := r18.get' hc1
      obtain ⟨t2, ht2, rc2⟩ := r2.get' hc2
      rw [ht1] at ht2
      obtain rfl : t1 = t2 := Option.some.inj ht2
      have fit := lists_fit (two := two) hls z t1 (s1.perm.mem_iff.mp (List.mem_of_getElem? ht1))
      exact eqd_rep rc1 rc2 (by omega)
end
end K02

set_option Elab.async false
set_option linter.all false
set_option maxRecDepth 100000
set_option maxHeartbeats 4000000
namespace K02
open PySem PySem.Spec PyProof.Rows L2 XC XK XL LamX
/-- a def of the top -/
theorem binds_of {K : PySem.W.Frag} {x qual : Str} {st : Stmt} {f c : Addr} {fd : FuncData} {ps : List Str} (F : FunC K x qual st f fd c) : Fun K x qual st f fd := by
  obtain ⟨⟨oc, od, kV, doc, pm, an, ct, osl, e, l, q⟩, k⟩ := F
  exact ⟨⟨oc, od, kV, doc, pm, an, .ref c, ct, osl, e, l, q⟩, k⟩
theorem all_mk {l : PySem.W.OpenLaw} {w : World} {K : PySem.W.Frag} {h : Heap} {mg : Str → Option Value} {fa C Pt cL : Addr} (X : K.In h) (G : h.Ns mainGlobals mg) (hfa : mg "law" = some (.ref fa))
    {f0 f1 f2 f3 f4 f5 f6 f7 f8 f9 f10 f11 f12 f13 f14 f15 f16 f17 f18 f19 : Addr} {od0 od1 od2 od3 od4 od5 od6 od7 od8 od9 od10 od11 od12 od13 od14 od15 od16 od17 od18 od19 an0 an1 an2 an3 an4 an5 an6 an7 an8 an9 an10 an11 an12 an13 an14 an15 an16 an17 an18 an19 : Option Addr}
    {sl0 sl1 sl2 sl3 sl4 sl5 sl6 sl7 sl8 sl9 sl10 sl11 sl12 sl13 sl14 sl15 sl16 sl17 sl18 sl19 : Array (Option Value)}
    {oc0 kV0 dc0 pm0 ct0 cd0 oc1 kV1 dc1 pm1 ct1 cd1 oc2 kV2 dc2 pm2 ct2 cd2 oc3 kV3 dc3 pm3 ct3 cd3 oc4 kV4 dc4 pm4 ct4 cd4 oc5 kV5 dc5 pm5 ct5 cd5 oc6 kV6 dc6 pm6 ct6 cd6 oc7 kV7 dc7 pm7 ct7 cd7 oc8 kV8 dc8 pm8 ct8 cd8 oc9 kV9 dc9 pm9 ct9 cd9 oc10 kV10 dc10 pm10 ct10 cd10 oc11 kV11 dc11 pm11 ct11 cd11 oc12 kV12 dc12 pm12 ct12 cd12 oc13 kV13 dc13 pm13 ct13 cd13 oc14 kV14 dc14 pm14 ct14 cd14 oc15 kV15 dc15 pm15 ct15 cd15 oc16 kV16 dc16 pm16 ct16 cd16 oc17 kV17 dc17 pm17 ct17 oc18 kV18 dc18 pm18 ct18 cd18 oc19 kV19 dc19 pm19 ct19 cd19 : Value} {tM tN : Tok}
    (a0 : PySem.W.nsIn K mainGlobals "is_whole" = some (some (.ref f0))) (l0 : K.lookup f0 = some ⟨oc0, od0, .func (PySem.W.fnOf "is_whole" "is_whole" (defArgs sWhole) (defBody sWhole) (defScope sWhole) .none kV0 dc0 pm0 an0 cd0 ct0), sl0⟩) (c0 : PySem.W.codeIn K cd0 "is_whole" = true) (k0 : PySem.W.keepIn K (.ref f0) = true)
    (a1 : PySem.W.nsIn K mainGlobals "is_kind" = some (some (.ref f1))) (l1 : K.lookup f1 = some ⟨oc1, od1, .func (PySem.W.fnOf "is_kind" "is_kind" (defArgs sIsKind) (defBody sIsKind) (defScope sIsKind) .none kV1 dc1 pm1 an1 cd1 ct1), sl1⟩) (c1 : PySem.W.codeIn K cd1 "is_kind" = true) (k1 : PySem.W.keepIn K (.ref f1) = true)
    (a2 : PySem.W.nsIn K mainGlobals "_is_letter" = some (some (.ref f2))) (l2 : K.lookup f2 = some ⟨oc2, od2, .func (PySem.W.fnOf "_is_letter" "_is_letter" (defArgs sLetter) (defBody sLetter) (defScope sLetter) .none kV2 dc2 pm2 an2 cd2 ct2), sl2⟩) (c2 : PySem.W.codeIn K cd2 "_is_letter" = true) (k2 : PySem.W.keepIn K (.ref f2) = true)
    (a3 : PySem.W.nsIn K mainGlobals "check_kind" = some (some (.ref f3))) (l3 : K.lookup f3 = some ⟨oc3, od3, .func (PySem.W.fnOf "check_kind" "check_kind" (defArgs sCheck) (defBody sCheck) (defScope sCheck) .none kV3 dc3 pm3 an3 cd3 ct3), sl3⟩) (c3 : PySem.W.codeIn K cd3 "check_kind" = true) (k3 : PySem.W.keepIn K (.ref f3) = true)
    (a4 : PySem.W.nsIn K mainGlobals "_parts" = some (some (.ref f4))) (l4 : K.lookup f4 = some ⟨oc4, od4, .func (PySem.W.fnOf "_parts" "_parts" (defArgs sParts) (defBody sParts) (defScope sParts) .none kV4 dc4 pm4 an4 cd4 ct4), sl4⟩) (c4 : PySem.W.codeIn K cd4 "_parts" = true) (k4 : PySem.W.keepIn K (.ref f4) = true)
    (a5 : PySem.W.nsIn K mainGlobals "folded" = some (some (.ref f5))) (l5 : K.lookup f5 = some ⟨oc5, od5, .func (PySem.W.fnOf "folded" "folded" (defArgs sFold) (defBody sFold) (defScope sFold) .none kV5 dc5 pm5 an5 cd5 ct5), sl5⟩) (c5 : PySem.W.codeIn K cd5 "folded" = true) (k5 : PySem.W.keepIn K (.ref f5) = true)
    (a6 : PySem.W.nsIn K mainGlobals "write_shape" = some (some (.ref f6))) (l6 : K.lookup f6 = some ⟨oc6, od6, .func (PySem.W.fnOf "write_shape" "write_shape" (defArgs sWrite) (defBody sWrite) (defScope sWrite) .none kV6 dc6 pm6 an6 cd6 ct6), sl6⟩) (c6 : PySem.W.codeIn K cd6 "write_shape" = true) (k6 : PySem.W.keepIn K (.ref f6) = true)
    (a7 : PySem.W.nsIn K mainGlobals "_text_above" = some (some (.ref f7))) (l7 : K.lookup f7 = some ⟨oc7, od7, .func (PySem.W.fnOf "_text_above" "_text_above" (defArgs sAbove) (defBody sAbove) (defScope sAbove) .none kV7 dc7 pm7 an7 cd7 ct7), sl7⟩) (c7 : PySem.W.codeIn K cd7 "_text_above" = true) (k7 : PySem.W.keepIn K (.ref f7) = true)
    (a8 : PySem.W.nsIn K mainGlobals "all_shapes" = some (some (.ref f8))) (l8 : K.lookup f8 = some ⟨oc8, od8, .func (PySem.W.fnOf "all_shapes" "all_shapes" (defArgs sAll) (defBody sAll) (defScope sAll) .none kV8 dc8 pm8 an8 cd8 ct8), sl8⟩) (c8 : PySem.W.codeIn K cd8 "all_shapes" = true) (k8 : PySem.W.keepIn K (.ref f8) = true)
    (a9 : PySem.W.nsIn K mainGlobals "_check_number" = some (some (.ref f9))) (l9 : K.lookup f9 = some ⟨oc9, od9, .func (PySem.W.fnOf "_check_number" "_check_number" (defArgs sNumber) (defBody sNumber) (defScope sNumber) .none kV9 dc9 pm9 an9 cd9 ct9), sl9⟩) (c9 : PySem.W.codeIn K cd9 "_check_number" = true) (k9 : PySem.W.keepIn K (.ref f9) = true)
    (a10 : PySem.W.nsIn K mainGlobals "_one_larger" = some (some (.ref f10))) (l10 : K.lookup f10 = some ⟨oc10, od10, .func (PySem.W.fnOf "_one_larger" "_one_larger" (defArgs sLarger) (defBody sLarger) (defScope sLarger) .none kV10 dc10 pm10 an10 cd10 ct10), sl10⟩) (c10 : PySem.W.codeIn K cd10 "_one_larger" = true) (k10 : PySem.W.keepIn K (.ref f10) = true)
    (a11 : PySem.W.nsIn K mainGlobals "_law_tape" = some (some (.ref f11))) (l11 : K.lookup f11 = some ⟨oc11, od11, .func (PySem.W.fnOf "_law_tape" "_law_tape" (defArgs sTape) (defBody sTape) (defScope sTape) .none kV11 dc11 pm11 an11 cd11 ct11), sl11⟩) (c11 : PySem.W.codeIn K cd11 "_law_tape" = true) (k11 : PySem.W.keepIn K (.ref f11) = true)
    (a12 : PySem.W.nsIn K mainGlobals "_law_take" = some (some (.ref f12))) (l12 : K.lookup f12 = some ⟨oc12, od12, .func (PySem.W.fnOf "_law_take" "_law_take" (defArgs sTake) (defBody sTake) (defScope sTake) .none kV12 dc12 pm12 an12 cd12 ct12), sl12⟩) (c12 : PySem.W.codeIn K cd12 "_law_take" = true) (k12 : PySem.W.keepIn K (.ref f12) = true)
    (a13 : PySem.W.nsIn K mainGlobals "_law_same_items" = some (some (.ref f13))) (l13 : K.lookup f13 = some ⟨oc13, od13, .func (PySem.W.fnOf "_law_same_items" "_law_same_items" (defArgs sSameItems) (defBody sSameItems) (defScope sSameItems) .none kV13 dc13 pm13 an13 cd13 ct13), sl13⟩) (c13 : PySem.W.codeIn K cd13 "_law_same_items" = true) (k13 : PySem.W.keepIn K (.ref f13) = true)
    (a14 : PySem.W.nsIn K mainGlobals "_law_same" = some (some (.ref f14))) (l14 : K.lookup f14 = some ⟨oc14, od14, .func (PySem.W.fnOf "_law_same" "_law_same" (defArgs sSame) (defBody sSame) (defScope sSame) .none kV14 dc14 pm14 an14 cd14 ct14), sl14⟩) (c14 : PySem.W.codeIn K cd14 "_law_same" = true) (k14 : PySem.W.keepIn K (.ref f14) = true)
    (a15 : PySem.W.nsIn K mainGlobals "_law_kind" = some (some (.ref f15))) (l15 : K.lookup f15 = some ⟨oc15, od15, .func (PySem.W.fnOf "_law_kind" "_law_kind" (defArgs sLKind) (defBody sLKind) (defScope sLKind) .none kV15 dc15 pm15 an15 cd15 ct15), sl15⟩) (c15 : PySem.W.codeIn K cd15 "_law_kind" = true) (k15 : PySem.W.keepIn K (.ref f15) = true)
    (a16 : PySem.W.nsIn K mainGlobals "_law_text" = some (some (.ref f16))) (l16 : K.lookup f16 = some ⟨oc16, od16, .func (PySem.W.fnOf "_law_text" "_law_text" (defArgs sLText) (defBody sLText) (defScope sLText) .none kV16 dc16 pm16 an16 cd16 ct16), sl16⟩) (c16 : PySem.W.codeIn K cd16 "_law_text" = true) (k16 : PySem.W.keepIn K (.ref f16) = true)
    (a17 : PySem.W.nsIn K mainGlobals "_law_all" = some (some (.ref f17))) (l17 : K.lookup f17 = some ⟨oc17, od17, .func (PySem.W.fnOf "_law_all" "_law_all" (defArgs sLAll) (defBody sLAll) (defScope sLAll) .none kV17 dc17 pm17 an17 (.ref cL) ct17), sl17⟩) (c17 : PySem.W.codeIn K (.ref cL) "_law_all" = true) (k17 : PySem.W.keepIn K (.ref f17) = true)
    (a18 : PySem.W.nsIn K mainGlobals "_law_number" = some (some (.ref f18))) (l18 : K.lookup f18 = some ⟨oc18, od18, .func (PySem.W.fnOf "_law_number" "_law_number" (defArgs sLNum) (defBody sLNum) (defScope sLNum) .none kV18 dc18 pm18 an18 cd18 ct18), sl18⟩) (c18 : PySem.W.codeIn K cd18 "_law_number" = true) (k18 : PySem.W.keepIn K (.ref f18) = true)
    (a19 : PySem.W.nsIn K mainGlobals "law" = some (some (.ref f19))) (l19 : K.lookup f19 = some ⟨oc19, od19, .func (PySem.W.fnOf "law" "law" (defArgs sLaw) (defBody sLaw) (defScope sLaw) .none kV19 dc19 pm19 an19 cd19 ct19), sl19⟩) (c19 : PySem.W.codeIn K cd19 "law" = true) (k19 : PySem.W.keepIn K (.ref f19) = true)
    (z_abs : PySem.W.nsIn K mainGlobals "abs" = some none)
    (z_int : PySem.W.nsIn K mainGlobals "int" = some none)
    (z_len : PySem.W.nsIn K mainGlobals "len" = some none)
    (z_isinstance : PySem.W.nsIn K mainGlobals "isinstance" = some none)
    (z_bool : PySem.W.nsIn K mainGlobals "bool" = some none)
    (z_str : PySem.W.nsIn K mainGlobals "str" = some none)
    (z_tuple : PySem.W.nsIn K mainGlobals "tuple" = some none)
    (z_list : PySem.W.nsIn K mainGlobals "list" = some none)
    (z_range : PySem.W.nsIn K mainGlobals "range" = some none)
    (z_all : PySem.W.nsIn K mainGlobals "all" = some none)
    (z_sorted : PySem.W.nsIn K mainGlobals "sorted" = some none)
    (z_set : PySem.W.nsIn K mainGlobals "set" = some none)
    (z_zip : PySem.W.nsIn K mainGlobals "zip" = some none)
    (z_sum : PySem.W.nsIn K mainGlobals "sum" = some none)
    (z_reversed : PySem.W.nsIn K mainGlobals "reversed" = some none)
    (nL : PySem.W.nsIn K mainGlobals "MOST_LABELS" = some (some (.int 3 tM))) (nS : PySem.W.nsIn K mainGlobals "MOST_SHAPES" = some (some (.int 20000 tN)))
    (aC : PySem.W.nsIn K mainGlobals "TooLarge" = some (some (.ref C))) (xC : PySem.W.excIn K C [.type "ValueError", .type "Exception", .type "BaseException", .type "object"] "ValueError.__new__" = true) (kC : PySem.W.keepIn K (.ref C) = true)
    (bC : PySem.W.subIn K (.ref C) (.type "BaseException") = some true) (tC : PySem.W.typeIn K (.ref C) = some (.type "type")) (eC : PySem.W.exmOne K (.ref C) (.ref C) = some true)
    (hP : h.get? Pt = some { cls := .none, data := .fields #[] }) (nP : K.lookup Pt = none) (hd : PySem.W.codeHdIn K cL Pt = true) :
    LawAtS l w K CX0 69 63 "script" mg fa h := by
  have T : ExcT K mg C := ⟨xC, PySem.W.mg_of X G aC, kC, bC, tC, eC⟩
  have m0 := PySem.W.mg_of X G a0
  have m1 := PySem.W.mg_of X G a1
  have m2 := PySem.W.mg_of X G a2
  have m3 := PySem.W.mg_of X G a3
  have m4 := PySem.W.mg_of X G a4
  have m5 := PySem.W.mg_of X G a5
  have m6 := PySem.W.mg_of X G a6
  have m7 := PySem.W.mg_of X G a7
  have m8 := PySem.W.mg_of X G a8
  have m9 := PySem.W.mg_of X G a9
  have m10 := PySem.W.mg_of X G a10
  have m11 := PySem.W.mg_of X G a11
  have m12 := PySem.W.mg_of X G a12
  have m13 := PySem.W.mg_of X G a13
  have m14 := PySem.W.mg_of X G a14
  have m15 := PySem.W.mg_of X G a15
  have m16 := PySem.W.mg_of X G a16
  have m17 := PySem.W.mg_of X G a17
  have m18 := PySem.W.mg_of X G a18
  have m19 := PySem.W.mg_of X G a19
  have y_abs := PySem.W.mg_none_of X G z_abs
  have y_int := PySem.W.mg_none_of X G z_int
  have y_len := PySem.W.mg_none_of X G z_len
  have y_isinstance := PySem.W.mg_none_of X G z_isinstance
  have y_bool := PySem.W.mg_none_of X G z_bool
  have y_str := PySem.W.mg_none_of X G z_str
  have y_tuple := PySem.W.mg_none_of X G z_tuple
  have y_list := PySem.W.mg_none_of X G z_list
  have y_range := PySem.W.mg_none_of X G z_range
  have y_all := PySem.W.mg_none_of X G z_all
  have y_sorted := PySem.W.mg_none_of X G z_sorted
  have y_set := PySem.W.mg_none_of X G z_set
  have y_zip := PySem.W.mg_none_of X G z_zip
  have y_sum := PySem.W.mg_none_of X G z_sum
  have y_reversed := PySem.W.mg_none_of X G z_reversed
  have yL := PySem.W.mg_of X G nL
  have yS := PySem.W.mg_of X G nS
  have e := hfa.symm.trans m19
  cases e
  have F0 := fun_mk (st := sWhole) l0 c0 k0
  have F1 := fun_mk (st := sIsKind) l1 c1 k1
  have F2 := fun_mk (st := sLetter) l2 c2 k2
  have F3 := fun_mk (st := sCheck) l3 c3 k3
  have F4 := fun_mk (st := sParts) l4 c4 k4
  have F5 := fun_mk (st := sFold) l5 c5 k5
  have F6 := fun_mk (st := sWrite) l6 c6 k6
  have F7 := fun_mk (st := sAbove) l7 c7 k7
  have F8 := fun_mk (st := sAll) l8 c8 k8
  have F9 := fun_mk (st := sNumber) l9 c9 k9
  have F10 := fun_mk (st := sLarger) l10 c10 k10
  have F11 := fun_mk (st := sTape) l11 c11 k11
  have F12 := fun_mk (st := sTake) l12 c12 k12
  have F13 := fun_mk (st := sSameItems) l13 c13 k13
  have F14 := fun_mk (st := sSame) l14 c14 k14
  have F15 := fun_mk (st := sLKind) l15 c15 k15
  have F16 := fun_mk (st := sLText) l16 c16 k16
  have FC : FunC K "_law_all" "_law_all" sLAll f17 _ cL := ⟨⟨_, _, _, _, _, _, _, _, rfl, l17, c17⟩, k17⟩
  have F17 := binds_of (ps := []) FC
  have F18 := fun_mk (st := sLNum) l18 c18 k18
  have F19 := fun_mk (st := sLaw) l19 c19 k19
  have b0 := F0.binds (ps := ["value"]) fun _ _ _ _ _ _ us hl => match us, hl with | [_], _ => rfl
  have b1 := F1.binds (ps := ["value"]) fun _ _ _ _ _ _ us hl => match us, hl with | [_], _ => rfl
  have b2 := F2.binds (ps := ["value"]) fun _ _ _ _ _ _ us hl => match us, hl with | [_], _ => rfl
  have b3 := F3.binds (ps := ["kind"]) fun _ _ _ _ _ _ us hl => match us, hl with | [_], _ => rfl
  have b4 := F4.binds (ps := ["shape"]) fun _ _ _ _ _ _ us hl => match us, hl with | [_], _ => rfl
  have b5 := F5.binds (ps := ["shape", "bottom", "above"]) fun _ _ _ _ _ _ us hl => match us, hl with | [_, _, _], _ => rfl
  have b6 := F6.binds (ps := ["shape"]) fun _ _ _ _ _ _ us hl => match us, hl with | [_], _ => rfl
  have b7 := F7.binds (ps := ["label", "texts"]) fun _ _ _ _ _ _ us hl => match us, hl with | [_, _], _ => rfl
  have b8 := F8.binds (ps := ["kind", "count"]) fun _ _ _ _ _ _ us hl => match us, hl with | [_, _], _ => rfl
  have b9 := F9.binds (ps := ["kind", "count"]) fun _ _ _ _ _ _ us hl => match us, hl with | [_, _], _ => rfl
  have b10 := F10.binds (ps := ["kind", "by_size"]) fun _ _ _ _ _ _ us hl => match us, hl with | [_, _], _ => rfl
  have b11 := F11.binds (ps := ["script"]) fun _ _ _ _ _ _ us hl => match us, hl with | [_], _ => rfl
  have b12 := F12.binds (ps := ["tape", "many"]) fun _ _ _ _ _ _ us hl => match us, hl with | [_, _], _ => rfl
  have b13 := F13.binds (ps := ["actual", "expected"]) fun _ _ _ _ _ _ us hl => match us, hl with | [_, _], _ => rfl
  have b14 := F14.binds (ps := ["actual", "expected"]) fun _ _ _ _ _ _ us hl => match us, hl with | [_, _], _ => rfl
  have b15 := F15.binds (ps := ["tape"]) fun _ _ _ _ _ _ us hl => match us, hl with | [_], _ => rfl
  have b16 := F16.binds (ps := ["shape"]) fun _ _ _ _ _ _ us hl => match us, hl with | [_], _ => rfl
  have b17 := F17.binds (ps := ["kind", "count"]) fun _ _ _ _ _ _ us hl => match us, hl with | [_, _], _ => rfl
  have b18 := F18.binds (ps := ["kind", "count"]) fun _ _ _ _ _ _ us hl => match us, hl with | [_, _], _ => rfl
  refine ⟨PySem.W.fnOf "law" "law" (defArgs sLaw) (defBody sLaw) (defScope sLaw) .none kV19 dc19 pm19 an19 cd19 ct19, [(cL, Pt)], spLaw K Pt, fun p hp => ?_, fun p hp => ?_, fun p hp => ?_, fun s v => .of_eq rfl, fun H a ns hn _ hT hS => ?_, fun base _ _ hB => ?_⟩
  · rw [List.mem_singleton.mp hp]
    exact hP
  · rw [List.mem_singleton.mp hp]
    exact nP
  · rw [List.mem_singleton.mp hp]
    exact PySem.W.codeHd_of_K X hd
  · exact ⟨a, ns, rfl, hS, hn, hT (cL, Pt) (List.mem_singleton.mpr rfl), fun _ => rfl⟩
  · have TB : TabB base mg cL Pt := hB (cL, Pt) (List.mem_singleton.mpr rfl)
    have GTape := ok_tape (P := l.prog) (w := w) (base := base) (k := 0) F11 y_abs y_int
    have GTake := ok_take (P := l.prog) (w := w) (base := base) (k := 0) F12 y_len y_int
    have GSame := same_all (P := l.prog) (w := w) (base := base) F14 b14 m14 F13 b13 m13 y_len y_range y_isinstance y_bool y_int y_str y_tuple y_list 34
    have GParts := ok_parts (P := l.prog) (w := w) (base := base) (k := 0) F4 y_list y_reversed
    have GAbove := ok_above (P := l.prog) (w := w) (base := base) (k := 0) F7 y_len
    have GFold := ok_fold (P := l.prog) (w := w) (base := base) F5 GAbove b7 k7 GParts b4 k4 m4 y_reversed
    have GWrite := ok_write (P := l.prog) (w := w) (base := base) F6 GFold b5 k5 m5 m7
    have GWhole := ok_whole (P := l.prog) (w := w) (base := base) (k := 0) F0 y_isinstance y_bool y_int
    have GLetter := ok_letter (P := l.prog) (w := w) (base := base) (k := 0) F2 y_isinstance y_str y_len
    have GIsKind := ok_isKind (P := l.prog) (w := w) (base := base) F1 GWhole b0 k0 m0 GLetter b2 k2 m2 y_isinstance y_tuple y_len y_all y_list y_sorted y_set yL
    have GCheck := ok_check (P := l.prog) (w := w) (base := base) F3 GIsKind b1 k1 m1
    have GNumber := ok_number (P := l.prog) (w := w) (base := base) (k := 0) F9 T y_len y_zip y_sum yS
    have GLarger := ok_larger (P := l.prog) (w := w) (base := base) (k := 0) F10 y_zip
    have GAll := ok_all (P := l.prog) (w := w) (base := base) F8 GCheck b3 k3 m3 GNumber b9 k9 m9 GLarger b10 k10 m10 GWrite b6 m6 y_len y_sorted
    have GKind := ok_lkind (P := l.prog) (w := w) (base := base) F15 GTake b12 k12 m12
    have GText := all_ltext (P := l.prog) (w := w) (base := base) F16 b16 m16 y_len 31
    have GLNum := ok_lnum (P := l.prog) (w := w) (base := base) (k := 0) F18 y_len y_range y_sum
    have GLAll := ok_lall (P := l.prog) (w := w) (base := base) FC TB GText b16 k16 m16 y_range y_sorted
    exact ok_law F19 GTape b11 k11 m11 GKind b15 k15 m15 GTake b12 k12 m12 GLNum b18 k18 m18 GAll b8 k8 m8 GLAll b17 k17 m17 GSame b14 k14 m14 T
end K02

set_option Elab.async false
open PySem PySem.W PyProof.Rows
set_option maxRecDepth 100000 in
set_option maxHeartbeats 0 in
theorem PySem.Challenge.cw_treesays_k02_all_shapes_of_a_size_holds : PySem.Challenge.rw_treesays_k02_all_shapes_of_a_size.Holds := by
  w_on; o_law; k_head; (case hw => w_witness2)
  k_fill
  refine LamX.walk_ofTs (l := PySem.Challenge.rw_treesays_k02_all_shapes_of_a_size) (n := 63) (k := 69) (x := "script") (CX := fun _ => L2.CX0) rfl (by decide) rfl ⟨rfl, by decide, by decide⟩ (fun w h Y => PySem.W.km_in_of Y) ?F (fun _ _ _ _ _ h => h)
  case F =>
    intro w mg fa h Y KX G hmg
    refine' K02.all_mk KX G hmg ?a0 ?l0 ?c0 ?k0 ?a1 ?l1 ?c1 ?k1 ?a2 ?l2 ?c2 ?k2 ?a3 ?l3 ?c3 ?k3 ?a4 ?l4 ?c4 ?k4 ?a5 ?l5 ?c5 ?k5 ?a6 ?l6 ?c6 ?k6 ?a7 ?l7 ?c7 ?k7 ?a8 ?l8 ?c8 ?k8 ?a9 ?l9 ?c9 ?k9 ?a10 ?l10 ?c10 ?k10 ?a11 ?l11 ?c11 ?k11 ?a12 ?l12 ?c12 ?k12 ?a13 ?l13 ?c13 ?k13 ?a14 ?l14 ?c14 ?k14 ?a15 ?l15 ?c15 ?k15 ?a16 ?l16 ?c16 ?k16 ?a17 ?l17 ?c17 ?k17 ?a18 ?l18 ?c18 ?k18 ?a19 ?l19 ?c19 ?k19 ?z_abs ?z_int ?z_len ?z_isinstance ?z_bool ?z_str ?z_tuple ?z_list ?z_range ?z_all ?z_sorted ?z_set ?z_zip ?z_sum ?z_reversed ?nL ?nS ?aC ?xC ?kC ?bC ?tC ?eC (PySem.W.km_tabs_of Y _ List.mem_cons_self) ?nP ?hd
    (case a0 => first | k_is | rfl | decide +kernel)
    (case l0 => first | k_is | rfl | decide +kernel)
    (case c0 => first | k_is | rfl | decide +kernel)
    (case k0 => first | k_is | rfl | decide +kernel)
    (case a1 => first | k_is | rfl | decide +kernel)
    (case l1 => first | k_is | rfl | decide +kernel)
    (case c1 => first | k_is | rfl | decide +kernel)
    (case k1 => first | k_is | rfl | decide +kernel)
    (case a2 => first | k_is | rfl | decide +kernel)
    (case l2 => first | k_is | rfl | decide +kernel)
    (case c2 => first | k_is | rfl | decide +kernel)
    (case k2 => first | k_is | rfl | decide +kernel)
    (case a3 => first | k_is | rfl | decide +kernel)
    (case l3 => first | k_is | rfl | decide +kernel)
    (case c3 => first | k_is | rfl | decide +kernel)
    (case k3 => first | k_is | rfl | decide +kernel)
    (case a4 => first | k_is | rfl | decide +kernel)
    (case l4 => first | k_is | rfl | decide +kernel)
    (case c4 => first | k_is | rfl | decide +kernel)
    (case k4 => first | k_is | rfl | decide +kernel)
    (case a5 => first | k_is | rfl | decide +kernel)
    (case l5 => first | k_is | rfl | decide +kernel)
    (case c5 => first | k_is | rfl | decide +kernel)
    (case k5 => first | k_is | rfl | decide +kernel)
    (case a6 => first | k_is | rfl | decide +kernel)
    (case l6 => first | k_is | rfl | decide +kernel)
    (case c6 => first | k_is | rfl | decide +kernel)
    (case k6 => first | k_is | rfl | decide +kernel)
    (case a7 => first | k_is | rfl | decide +kernel)
    (case l7 => first | k_is | rfl | decide +kernel)
    (case c7 => first | k_is | rfl | decide +kernel)
    (case k7 => first | k_is | rfl | decide +kernel)
    (case a8 => first | k_is | rfl | decide +kernel)
    (case l8 => first | k_is | rfl | decide +kernel)
    (case c8 => first | k_is | rfl | decide +kernel)
    (case k8 => first | k_is | rfl | decide +kernel)
    (case a9 => first | k_is | rfl | decide +kernel)
    (case l9 => first | k_is | rfl | decide +kernel)
    (case c9 => first | k_is | rfl | decide +kernel)
    (case k9 => first | k_is | rfl | decide +kernel)
    (case a10 => first | k_is | rfl | decide +kernel)
    (case l10 => first | k_is | rfl | decide +kernel)
    (case c10 => first | k_is | rfl | decide +kernel)
    (case k10 => first | k_is | rfl | decide +kernel)
    (case a11 => first | k_is | rfl | decide +kernel)
    (case l11 => first | k_is | rfl | decide +kernel)
    (case c11 => first | k_is | rfl | decide +kernel)
    (case k11 => first | k_is | rfl | decide +kernel)
    (case a12 => first | k_is | rfl | decide +kernel)
    (case l12 => first | k_is | rfl | decide +kernel)
    (case c12 => first | k_is | rfl | decide +kernel)
    (case k12 => first | k_is | rfl | decide +kernel)
    (case a13 => first | k_is | rfl | decide +kernel)
    (case l13 => first | k_is | rfl | decide +kernel)
    (case c13 => first | k_is | rfl | decide +kernel)
    (case k13 => first | k_is | rfl | decide +kernel)
    (case a14 => first | k_is | rfl | decide +kernel)
    (case l14 => first | k_is | rfl | decide +kernel)
    (case c14 => first | k_is | rfl | decide +kernel)
    (case k14 => first | k_is | rfl | decide +kernel)
    (case a15 => first | k_is | rfl | decide +kernel)
    (case l15 => first | k_is | rfl | decide +kernel)
    (case c15 => first | k_is | rfl | decide +kernel)
    (case k15 => first | k_is | rfl | decide +kernel)
    (case a16 => first | k_is | rfl | decide +kernel)
    (case l16 => first | k_is | rfl | decide +kernel)
    (case c16 => first | k_is | rfl | decide +kernel)
    (case k16 => first | k_is | rfl | decide +kernel)
    (case a17 => first | k_is | rfl | decide +kernel)
    (case l17 => first | k_is | rfl | decide +kernel)
    (case c17 => first | k_is | rfl | decide +kernel)
    (case k17 => first | k_is | rfl | decide +kernel)
    (case a18 => first | k_is | rfl | decide +kernel)
    (case l18 => first | k_is | rfl | decide +kernel)
    (case c18 => first | k_is | rfl | decide +kernel)
    (case k18 => first | k_is | rfl | decide +kernel)
    (case a19 => first | k_is | rfl | decide +kernel)
    (case l19 => first | k_is | rfl | decide +kernel)
    (case c19 => first | k_is | rfl | decide +kernel)
    (case k19 => first | k_is | rfl | decide +kernel)
    (case z_abs => first | k_is | rfl | decide +kernel)
    (case z_int => first | k_is | rfl | decide +kernel)
    (case z_len => first | k_is | rfl | decide +kernel)
    (case z_isinstance => first | k_is | rfl | decide +kernel)
    (case z_bool => first | k_is | rfl | decide +kernel)
    (case z_str => first | k_is | rfl | decide +kernel)
    (case z_tuple => first | k_is | rfl | decide +kernel)
    (case z_list => first | k_is | rfl | decide +kernel)
    (case z_range => first | k_is | rfl | decide +kernel)
    (case z_all => first | k_is | rfl | decide +kernel)
    (case z_sorted => first | k_is | rfl | decide +kernel)
    (case z_set => first | k_is | rfl | decide +kernel)
    (case z_zip => first | k_is | rfl | decide +kernel)
    (case z_sum => first | k_is | rfl | decide +kernel)
    (case z_reversed => first | k_is | rfl | decide +kernel)
    (case nL => first | k_is | rfl | decide +kernel)
    (case nS => first | k_is | rfl | decide +kernel)
    (case aC => first | k_is | rfl | decide +kernel)
    (case xC => first | k_exc | k_is | rfl | decide +kernel)
    (case kC => first | k_is | rfl | decide +kernel)
    (case bC => first | k_is | rfl | decide +kernel)
    (case tC => first | k_is | rfl | decide +kernel)
    (case eC => first | k_is | rfl | decide +kernel)
    (case nP => first | k_is | rfl | decide +kernel)
    (case hd => first | k_is | rfl | decide +kernel)
