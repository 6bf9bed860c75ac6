import PyProof.Rows.All
import Wide.All
import OpenK.AllK
import Wide.FinOn
import HandS.ForMost
import HandS.DictComp
import HandS.ForExc
import HandS.TupAny
import HandS.IsInst
import HandS.Deep
import HandS.Flow
import HandS.Lambda
import HandS.Walk
import HandS.Zip
import HandS.Rev
import HandS.RevRange
import HandS.WordsDict
import PyProof.AutoSeq1
import HandS.More
import PyProof.ListStr
import KE.KSortTup
import HandS.SortOrd
import HandS.SortRule
import HandS.Star
import HandS.Style
import HandS.CallLocal
import KE.KLam
import HandS.Nested
import HandS.OwnEq
import PyProof.EnumIter
import HandS.Sort
import HandS.List
import KE.KRevSl
import HandS.Base
import HandS.Call
import HandS.Ends
import HandS.Words
import HandS.Set
import HandS.SetFor
import HandS.HeadWalk
import HandS.HeadHook1
import HandS.EndTab
import PySem.Challenge.RW_treesays_k07_runs_of_machines
set_option Elab.async false
set_option linter.all false
set_option maxRecDepth 100000
set_option maxHeartbeats 2000000
/-! dicts whose keys are pairs of a text (or a number) and a tuple of such -/
namespace XP
open PySem PySem.Spec PyProof.Rows L2
abbrev PKey := Key × List Key
section
variable {P : Program} {w : World}
/-- the tuple (k, (..)) stands at a -/
def IsPair (P : Program) (w : World) (h : Heap) (k : PKey) (a : Addr) : Prop := ∃ (o : Obj) (v : Value) (b : Addr) (n : Nat), h.get? a = some o ∧ o.cls = .type "tuple" ∧ o.data = .seq #[v, .ref b] n ∧ (mixKind P w).is k.1 v = true ∧ IsTupleKey (mixKind P w) h k.2 b
theorem IsPair.typeIs {s : Shared} {k : PKey} {a : Addr} (x : IsPair P w s.heap k a) : s.TypeIs (.ref a) "tuple" := let ⟨o, _, _, _, ho, hc, _⟩ := x; ⟨o, ho, hc⟩
theorem IsPair.inj {h : Heap} {a : Addr} {x y : PKey} (hx : IsPair P w h x a) (hy : IsPair P w h y a) : x = y := by
  obtain ⟨o, v, b, n, ho, _, hd, h1, h2⟩ := hx
  obtain ⟨o', v', b', n', ho', _, hd', h1', h2'⟩ := hy
  obtain rfl : o = o' := Option.some.inj (ho.symm.trans ho')
  rw [hd] at hd'
  injection hd' with e1 _
  have e2 : [v, Value.ref b] = [v', Value.ref b'] := by simpa using congrArg Array.toList e1
  injection e2 with e3 e4
  injection e4 with e5 _
  injection e5 with e6
  subst e3 e6
  exact Prod.ext ((mixKind P w).inj _ _ _ h1 h1') (h2.inj h2')
theorem IsPair.keeps {h h' : Heap} {k : PKey} {a d : Addr} {o : Obj} {es ep} (x : IsPair P w h k a) (ho : h.get? d = some o) (hd : o.data = .dict es ep) (hs : Heap.SameBut d h h') : IsPair P w h' k a := by
  obtain ⟨o', v, b, n, ho', hc, hd', h1, h2⟩ := x
  have hne : a ≠ d := by
    rintro rfl
    obtain rfl : o' = o := Option.some.inj (ho'.symm.trans ho)
    rw [hd] at hd'; exact nomatch hd'
  exact ⟨o', v, b, n, (hs.2 a hne).trans ho', hc, hd', h1, h2.keeps ho hd hs⟩
def pHash (w : World) (k : PKey) : Int := reduceHash (Builtin.Tuple.tupleHashOf [keyH w k.1, reduceHash (Builtin.Tuple.tupleHashOf (k.2.map (keyH w)))])
variable {A : Around} {E : Value → Shared → Prop} {s : Shared}
theorem wpAny_pyHash_pair {k : PKey} {a : Addr} {Q : Int → Shared → Prop} (hu : A.units + 1 < cLine) (hk : IsPair P w s.heap k a) (h : Q (pHash w k) { s with toks := s.toks + (k.2.length + 3) }) :
    wpAny (model P w) A (pyHash (.ref a)) Q E s := by
  have hT := hk.typeIs
  obtain ⟨o, v, b, n, ho, _, hd, h1, h2⟩ := hk
  unfold pyHash
  first | unfold pyHashByItsType | skip
  first | refine wpAny_bind (wpAny_cRoomFor_or (.inr (by omega)) ?_) | skip
  refine wpAny_bind (wpAny_specialOf hT F.slot_tuple_hash.lookup ?_)
  show wpAny _ _ (if (some (Value.builtin "tuple.__hash__") == some Value.none) = true then _ else _) Q E s
  rw [if_neg (by rw [beq_builtin_none]; exact Bool.false_ne_true)]
  refine wpAny_bind (wpAny_specialOf hT F.slot_tuple_hash.lookup ?_)
  show wpAny _ _ (callSpecialIfBoundUnlessNone? (.ref a) "__hash__" _ >>= _) Q E s
  refine wpAny_bind (wpAny_callSpecialIfBoundUnlessNone?_slot hT F.slot_tuple_hash (wpAny_call_entry F.slot_tuple_hash hT F.entry_tuple_hash ?_ (F.args_tuple_hash_1 _)))
  show wpAny _ _ (Builtin.Tuple.tupleItemsOf (.ref a) >>= _) _ _ s
  refine wpAny_bind (wpAny_tupleItemsOf ho hd ?_)
  refine wpAny_bind ?_
  rw [← Array.forIn_toList]
  refine wpAny_forIn_list _
    (fun rest (hs : Array Int) s' => (rest = [v, .ref b] ∧ hs.toList = [] ∧ s' = s) ∨ (rest = [.ref b] ∧ hs.toList = [(mixKind P w).hash k.1] ∧ s' = { s with toks := s.toks + 1 }) ∨ (rest = [] ∧ hs.toList = [(mixKind P w).hash k.1, tupleKeyHash (mixKind P w) k.2] ∧ s' = { s with toks := s.toks + (k.2.length + 2) }))
    _ ?_ ?_ _ _ (.inl ⟨rfl, rfl, rfl⟩)
  · rintro x rest hs s' (⟨e, hb, rfl⟩ | ⟨e, hb, rfl⟩ | ⟨e, _⟩)
    · injection e with e1 e2
      subst e1 e2
      refine wpAny_bind ((mixKind P w).pyHash h1 ?_)
      first
        | exact wpAny_pure (.inr (.inl ⟨rfl, by simp [hb], rfl⟩))
        | exact wpAny_bind (wpAny_pure (wpAny_pure (.inr (.inl ⟨rfl, by simp [hb], rfl⟩))))
    · injection e with e1 e2
      subst e1 e2
      refine wpAny_bind (wpAny_pyHash_tuple (s := { s with toks := s.toks + 1 }) hu h2 ?_)
      have et : s.toks + 1 + (k.2.length + 1) = s.toks + (k.2.length + 2) := by omega
      first
        | exact wpAny_pure (.inr (.inr ⟨rfl, by simp [hb], by rw [← et]⟩))
        | exact wpAny_bind (wpAny_pure (wpAny_pure (.inr (.inr ⟨rfl, by simp [hb], by rw [← et]⟩))))
    · cases e
  · rintro hs s' (⟨e, _⟩ | ⟨e, _⟩ | ⟨_, hb, rfl⟩)
    · cases e
    · cases e
    show wpAny _ _ (retInt (Builtin.Tuple.tupleHashOf hs.toList)) _ _ _
    rw [hb]
    refine wpAny_ret_mkInt ?_
    show wpAny _ _ (if (decide (-(2 : Int) ^ 63 ≤ Builtin.Tuple.tupleHashOf [(mixKind P w).hash k.1, tupleKeyHash (mixKind P w) k.2]) && decide (Builtin.Tuple.tupleHashOf [(mixKind P w).hash k.1, tupleKeyHash (mixKind P w) k.2] < 2 ^ 63)) = true then _ else _) Q E _
    replace h : Q (reduceHash (Builtin.Tuple.tupleHashOf [(mixKind P w).hash k.1, tupleKeyHash (mixKind P w) k.2])) { s with toks := s.toks + (k.2.length + 3) } := h
    unfold reduceHash at h
    have et : s.toks + (k.2.length + 2) + 1 = s.toks + (k.2.length + 3) := by omega
    by_cases hr : (decide (-(2 : Int) ^ 63 ≤ Builtin.Tuple.tupleHashOf [(mixKind P w).hash k.1, tupleKeyHash (mixKind P w) k.2]) && decide (Builtin.Tuple.tupleHashOf [(mixKind P w).hash k.1, tupleKeyHash (mixKind P w) k.2] < 2 ^ 63)) = true
    · rw [if_pos hr]
      rw [if_pos hr] at h
      exact wpAny_pure (by simpa [Nat.add_assoc] using h)
    · rw [if_neg hr]
      rw [if_neg hr] at h
      exact wpAny_bind (wpAny_rule (wpAny_pure (by simpa [Nat.add_assoc] using h)))
theorem pair_eq_tree {x y : PKey} {a b : Addr} {R : Fin → Shared → Prop} (hu : A.units < cLine) (hx : IsPair P w s.heap x a) (hy : IsPair P w s.heap y b) (h : R (.done (.ret (.bool (decide (x = y))))) s) :
    wpAny (model P w) A (Builtin.«tuple.__eq__» ⟨[.ref a, .ref b], []⟩) R E s := by
  have hTb := hy.typeIs
  obtain ⟨oa, va, ba, na, hoa, _, hda, h1a, h2a⟩ := hx
  obtain ⟨ob, vb, bb, nb, hob, _, hdb, h1b, h2b⟩ := hy
  show wpAny _ _ (isInstance (.ref b) (.type "tuple") >>= _) _ _ s
  refine wpAny_bind (wpAny_isInstance hTb isSubtype_tuple_tuple ?_)
  simp only [Bool.not_true, Bool.false_eq_true, if_false]
  refine wpAny_bind (wpAny_tupleItemsOf hoa hda ?_)
  refine wpAny_bind (wpAny_tupleItemsOf hob hdb ?_)
  refine wpAny_bind ?_
  have dxy : decide (x = y) = (decide (x.1 = y.1) && decide (x.2 = y.2)) := by
    obtain ⟨x1, x2⟩ := x
    obtain ⟨y1, y2⟩ := y
    simp only [Prod.mk.injEq]
    by_cases e1 : x1 = y1 <;> by_cases e2 : x2 = y2 <;> simp [e1, e2]
  refine wpAny_forIn_list _
    (fun rest r s' => r.1 = none ∧ s' = s ∧ (rest = [(va, vb), (Value.ref ba, Value.ref bb)] ∨ (rest = [(Value.ref ba, Value.ref bb)] ∧ x.1 = y.1) ∨ (rest = [] ∧ x = y)))
    _ ?_ ?_ _ _ ⟨rfl, rfl, .inl rfl⟩
  · rintro ⟨u, v⟩ rest r s' ⟨hr, rfl, e | ⟨e, e1⟩ | ⟨e, _⟩⟩
    · injection e with e1 e2
      injection e1 with e3 e4
      subst e3 e4 e2
      refine wpAny_bind ((mixKind P w).eqBool (a := x.1) (b := y.1) h1a h1b ?_)
      by_cases hk : x.1 = y.1
      · rw [decide_eq_true hk]
        simp only [Bool.not_true, Bool.false_eq_true, if_false]
        exact wpAny_pure ⟨(by first | rfl | trivial), (by first | rfl | trivial), by first | exact .inr (.inl ⟨(by first | rfl | trivial), hk⟩) | (simp; done) | (simp; first | exact hk | exact Prod.ext e1 hk)⟩
      · rw [decide_eq_false hk]
        simp only [Bool.not_false, if_true]
        rw [dxy, decide_eq_false hk, Bool.false_and] at h
        exact wpAny_bind (wpAny_pure (wpAny_pure (wpAny_pure h)))
    · injection e with e2 e3
      injection e2 with e4 e5
      subst e4 e5 e3
      refine wpAny_bind (wpAny_eqBool_tuple hu h2a h2b ?_)
      by_cases hk : x.2 = y.2
      · rw [decide_eq_true hk]
        simp only [Bool.not_true, Bool.false_eq_true, if_false]
        exact wpAny_pure ⟨(by first | rfl | trivial), (by first | rfl | trivial), by first | exact .inr (.inr ⟨(by first | rfl | trivial), Prod.ext e1 hk⟩) | (simp; done) | (simp; first | exact hk | exact Prod.ext e1 hk)⟩
      · rw [decide_eq_false hk]
        simp only [Bool.not_false, if_true]
        rw [dxy, decide_eq_false hk, Bool.and_false] at h
        exact wpAny_bind (wpAny_pure (wpAny_pure (wpAny_pure h)))
    · cases e
  · rintro ⟨r1, r2⟩ s' ⟨hr, rfl, e | ⟨e, _⟩ | ⟨_, e⟩⟩
    · cases e
    · cases e
    simp only at hr
    subst hr
    refine wpAny_pure ?_
    rw [decide_eq_true e] at h
    exact h
theorem wpAny_eqBool_pair {x y : PKey} {a b : Addr} {Q : Bool → Shared → Prop} (hu : A.units + 1 < cLine) (hx : IsPair P w s.heap x a) (hy : IsPair P w s.heap y b) (h : Q (decide (x = y)) s) :
    wpAny (model P w) A (eqBool (.ref a) (.ref b)) Q E s := by
  unfold eqBool
  try with_reducible refine wpAny_holding ?_
  show wpAny _ _ (if (Value.ref a == Value.ref b) = true then _ else _) Q E s
  by_cases hab : (Value.ref a == Value.ref b) = true
  · rw [if_pos hab]
    have e : a = b := by have := eq_of_beq hab; injection this
    subst e
    obtain rfl := hx.inj hy
    exact wpAny_bind (wpAny_rule (wpAny_pure (by simpa using h)))
  · rw [if_neg hab]
    exact wpAny_bind (wpAny_richCompare_same_room (op := .Eq) hx.typeIs hy.typeIs F.slot_tuple_eq
      (wpAny_call_entry F.slot_tuple_eq hx.typeIs F.entry_tuple_eq (pair_eq_tree (by first | exact hu | (show A.units + 1 < cLine; exact hu)) hx hy ⟨_, rfl, (fun e => nomatch e), wpAny_truthy_bool h⟩) (F.args_tuple_eq_2 _ _)) (by omega))
theorem quiet_tuple (m : Nat) {ks : List Key} {a : Addr} {Q : Bool → Shared → Prop} (hk : IsTupleKey (mixKind P w) s.heap ks a) (h : Q true s) : wpAny (model P w) A (eqIsQuiet (m + 1) (.ref a)) Q E s := by
  have hT := hk.typeIs
  obtain ⟨o, items, n, ho, _, hd, hi⟩ := hk
  unfold eqIsQuiet
  refine wpAny_bind (wpAny_specialOf hT F.slot_tuple_eq.lookup ?_)
  show wpAny _ _ (isInstance (.ref a) (.type "tuple") >>= _) _ _ s
  refine wpAny_bind (wpAny_isInstance hT isSubtype_tuple_tuple ?_)
  simp only [Bool.not_true, Bool.false_eq_true, if_false]
  refine wpAny_bind (wpAny_seqItems ho hd ?_)
  refine wpAny_bind ?_
  show wpAny _ _ (forIn items _ _) _ _ s
  rw [← Array.forIn_toList]
  refine wpAny_forIn_list _ (fun rest r s' => r.1 = none ∧ s' = s ∧ ∀ v ∈ rest, carriedByValue v = true) _ ?_ ?_ _ _ ⟨rfl, rfl, hi.byValue⟩
  · rintro v rest r s' ⟨hr, rfl, hall⟩
    rw [eqIsQuiet_byValue _ (hall v List.mem_cons_self)]
    refine wpAny_bind (wpAny_pure ?_)
    simp only [Bool.not_true, Bool.false_eq_true, if_false]
    exact wpAny_pure ⟨by first | rfl | trivial, rfl, fun u hu' => hall u (List.mem_cons_of_mem _ hu')⟩
  · rintro ⟨r1, r2⟩ s' ⟨hr, rfl, _⟩
    simp only at hr
    subst hr
    exact wpAny_pure h
theorem wpAny_eqIsQuiet_pair {k : PKey} {a : Addr} {Q : Bool → Shared → Prop} (hk : IsPair P w s.heap k a) (h : Q true s) : wpAny (model P w) A (eqIsQuiet 8 (.ref a)) Q E s := by
  have hT := hk.typeIs
  obtain ⟨o, v, b, n, ho, _, hd, h1, h2⟩ := hk
  unfold eqIsQuiet
  refine wpAny_bind (wpAny_specialOf hT F.slot_tuple_eq.lookup ?_)
  show wpAny _ _ (isInstance (.ref a) (.type "tuple") >>= _) _ _ s
  refine wpAny_bind (wpAny_isInstance hT isSubtype_tuple_tuple ?_)
  simp only [Bool.not_true, Bool.false_eq_true, if_false]
  refine wpAny_bind (wpAny_seqItems ho hd ?_)
  refine wpAny_bind ?_
  show wpAny _ _ (forIn #[v, Value.ref b] _ _) _ _ s
  rw [← Array.forIn_toList]
  refine wpAny_forIn_list _ (fun rest r s' => r.1 = none ∧ s' = s ∧ (rest = [v, .ref b] ∨ rest = [.ref b] ∨ rest = [])) _ ?_ ?_ _ _ ⟨rfl, rfl, .inl rfl⟩
  · rintro y rest r s' ⟨hr, rfl, e | e | e⟩
    · injection e with e1 e2
      subst e1 e2
      rw [eqIsQuiet_byValue _ ((mixKind P w).byValue _ _ h1)]
      refine wpAny_bind (wpAny_pure ?_)
      simp only [Bool.not_true, Bool.false_eq_true, if_false]
      exact wpAny_pure ⟨(by first | rfl | trivial), (by first | rfl | trivial), by first | exact .inr (.inl (by first | rfl | trivial)) | (simp; done) | (simp; first | exact hk | exact Prod.ext e1 hk)⟩
    · injection e with e1 e2
      subst e1 e2
      refine wpAny_bind (quiet_tuple 6 h2 ?_)
      simp only [Bool.not_true, Bool.false_eq_true, if_false]
      exact wpAny_pure ⟨(by first | rfl | trivial), (by first | rfl | trivial), by first | exact .inr (.inr (by first | rfl | trivial)) | (simp; done) | (simp; first | exact hk | exact Prod.ext e1 hk)⟩
    · cases e
  · rintro ⟨r1, r2⟩ s' ⟨hr, rfl, _⟩
    simp only at hr
    subst hr
    exact wpAny_pure h
/-- such pairs as keys -/
def pairKind (P : Program) (w : World) : HeapKind P w PKey where
  is := IsPair P w
  hash := pHash w
  draws := fun k => k.2.length + 3
  room := fun A => A.units + 1 < cLine
  inj := fun hx hy => hx.inj hy
  keeps := fun x ho hd hs => x.keeps ho hd hs
  pyHash := fun hu hk h => wpAny_pyHash_pair hu hk h
  eqBool := fun hu hx hy h => wpAny_eqBool_pair hu hx hy h
  quiet := fun hk h => wpAny_eqIsQuiet_pair hk h
end
/-! ### the object -/
abbrev PV : List (PKey × Addr × V) → List (PKey × Addr × Value) → Prop := Paired fun p q => p.1 = q.1 ∧ p.2.1 = q.2.1 ∧ RelV p.2.2 q.2.2
def entryP (w : World) (x : PKey × Addr × Value) : DictEntry := ⟨pHash w x.1, .ref x.2.1, x.2.2⟩
def IsP (w : World) (a : Addr) (xs : List (PKey × Addr × V)) (h : Heap) : Prop := (a == sysModules) = false ∧ xs.length ≤ sizeLine ∧ ∃ us, PV xs us ∧ ∃ o es ep, h.get? a = some o ∧ o.ExactDict ∧ o.data = .dict es ep ∧ es.toList = us.map (entryP w)
/-- a dict with such keys: (key, where the key stands, value) -/
def DicP (w : World) (a : Addr) (xs : List (PKey × Addr × V)) : HO := .ext (IsP w a xs)
/-- the key stands at b -/
def PAt (H : Hp) (b : Addr) (k : PKey) : Prop := ∃ c, H b = some (.tup [kV k.1, .ref c]) ∧ H c = some (.tup (k.2.map kV))
def PKeys (H : Hp) (xs : List (PKey × Addr × V)) : Prop := (∀ x ∈ xs, PAt H x.2.1 x.1) ∧ (xs.map (·.1)).Nodup
def valP (xs : List (PKey × Addr × V)) (k : PKey) : Option V := (xs.find? fun x => decide (x.1 = k)).map (·.2.2)
def putP (xs : List (PKey × Addr × V)) (k : PKey) (b : Addr) (v : V) : List (PKey × Addr × V) := if (xs.find? fun x => decide (x.1 = k)).isSome then xs.map (fun x => if x.1 = k then (x.1, x.2.1, v) else x) else xs ++ [(k, b, v)]
section
variable {P : Program} {w : World} {H : Hp} {h : Heap} {a b : Addr} {k : PKey} {v : V} {xs : List (PKey × Addr × V)} {us : List (PKey × Addr × Value)}
theorem isP_ok {h : Heap} (x : IsP w a xs h) : ObjOk P w H h a (DicP w a xs) := ⟨x, let ⟨_, _, _, _, o, _, _, e, _⟩ := x; ⟨o, e⟩, fun h1 h2 ⟨x1, x2, us, r, o, es, ep, e, y⟩ st => ⟨x1, x2, us, r, o, es, ep, st _ e, y⟩⟩
theorem pAt_is (ok : HOk P w H h) (e : PAt H b k) : IsPair P w h k b := by
  obtain ⟨c, e1, e2⟩ := e
  obtain ⟨_, its, r, o, h1, h2, n, h3⟩ := (show ObjOk P w H h b (.tup [kV k.1, .ref c]) from ok b _ e1)
  cases r with
  | cons r1 t =>
    cases t with
    | cons r2 t2 =>
      cases t2
      cases (show _ = Value.ref c from r2)
      exact ⟨o, _, c, n, h1, h2, h3, kV_is r1, key_of ok e2⟩
theorem PV.val (r : PV xs us) (k : PKey) : RelO (valP xs k) ((atKey us k).map (·.2)) := by
  unfold valP atKey
  induction r with
  | nil => exact True.intro
  | @cons p q ps qs hq t ih =>
    rw [List.find?_cons, List.find?_cons, ← hq.1]
    by_cases e : p.1 = k
    · simp only [e, decide_true]
      exact hq.2.2
    · simp only [e, decide_false]
      exact ih
theorem PV.some (r : PV xs us) (k : PKey) : (xs.find? fun x => decide (x.1 = k)).isSome = (atKey us k).isSome := by
  have := (r.val k).isSome_eq
  unfold valP at this
  rw [Option.isSome_map, Option.isSome_map] at this
  exact this
theorem PV.put (r : PV xs us) (k : PKey) {b : Addr} {v : V} {u : Value} (rv : RelV v u) : PV (putP xs k b v) (storedH us k b u) := by
  unfold putP storedH
  rw [r.some k]
  split
  · rename_i hz
    clear hz
    induction r with
    | nil => exact .nil
    | @cons p q ps qs hq t ih =>
      rw [List.map_cons, List.map_cons]
      refine .cons ?_ ih
      unfold putAt
      rw [← hq.1]
      by_cases e : p.1 = k
      · rw [if_pos e, if_pos e]; exact ⟨rfl, hq.2.1, rv⟩
      · rw [if_neg e, if_neg e]; exact hq
  · rename_i hz
    clear hz
    induction r with
    | nil => exact .cons ⟨rfl, rfl, rv⟩ .nil
    | cons hq t ih => exact .cons hq ih
theorem PV.keys (r : PV xs us) : xs.map (·.1) = us.map (·.1) := by
  induction r with
  | nil => rfl
  | cons hq t ih => rw [List.map_cons, List.map_cons, hq.1, ih]
theorem dicP_of (ok : HOk P w H h) (e : H a = some (DicP w a xs)) (ks : PKeys H xs) : (a == sysModules) = false ∧ xs.length ≤ sizeLine ∧ ∃ us, PV xs us ∧ h.DictOfH (pairKind P w) a us := by
  obtain ⟨⟨x1, x2, us, r, o, es, ep, e1, e2, e3, e4⟩, _⟩ := (show ObjOk P w H h a (DicP w a xs) from ok a _ e)
  refine ⟨x1, x2, us, r, o, es, ep, e1, e2, e3, e4, ?_, by rw [← r.keys]; exact ks.2⟩
  have all : ∀ {l : List (PKey × Addr × V)} {m : List (PKey × Addr × Value)}, PV l m → (∀ x ∈ l, PAt H x.2.1 x.1) → ∀ x ∈ m, (pairKind P w).is h x.1 x.2.1 := by
    intro l m q
    induction q with
    | nil => intro _ x hx; exact nomatch hx
    | @cons p q ps qs hq t ih =>
      intro hk x hx
      rcases List.mem_cons.mp hx with e | hx
      · subst e
        have := hk p List.mem_cons_self
        rw [hq.1, hq.2.1] at this
        exact pAt_is ok this
      · exact ih (fun y hy => hk y (List.mem_cons_of_mem _ hy)) x hx
  exact all r ks.1
theorem putP_len : (putP xs k b v).length ≤ xs.length + 1 := by
  unfold putP
  split
  · rw [List.length_map]; omega
  · rw [List.length_append]; simp
theorem dicP_empty {h : Heap} (hb : sysModules < h.objs.size) : ObjOk P w H (h.push { cls := .type "dict", data := .dict #[] }) h.objs.size (DicP w h.objs.size []) :=
  isP_ok ⟨by simpa using Nat.ne_of_gt hb, Nat.zero_le _, [], .nil, _, #[], 0, Heap.get?_push_size _ rfl, ⟨rfl, rfl, rfl⟩, rfl, rfl⟩
end
section
variable {X : Cx} {pins : List (Addr × Obj)} {σ : L2.St} {H : Hp} {s : Shared} {a b : Addr} {k : PKey} {v : V} {u r : Value} {xs : List (PKey × Addr × V)} {A : Around} {E : Value → Shared → Prop}
/-- d[k], there -/
theorem p_getItem {Q : Value → Shared → Prop} (hu : A.units + 2 < cLine) (I : Inv X pins σ H s) (e : H a = some (DicP X.w a xs)) (ks : PKeys H xs) (eb : PAt H b k) (l : valP xs k = some v) (h : ∀ w' s', Inv X pins σ H s' → RelV v w' → Q w' s') :
    wpAny (model X.prog X.w) A (getItem (.ref a) (.ref b)) Q E s := by
  obtain ⟨hd, z, us, rel, dd⟩ := dicP_of I.hok e ks
  obtain ⟨w', hw, rw'⟩ := RelO.some_of (v := v) (o := (atKey us k).map (·.2)) (by rw [← l]; exact rel.val k)
  obtain ⟨p, hp, hp2⟩ := Option.map_eq_some_iff.mp hw
  refine wpAny_getItem_heap (knd := pairKind X.prog X.w) (show A.units + 1 + 1 < cLine from hu) (pAt_is I.hok eb) dd hp ?_
  rw [hp2]
  exact h w' _ (I.tok _) rw'
theorem p_in {Q : Value → Shared → Prop} (hu : A.units + 2 < cLine) (I : Inv X pins σ H s) (e : H a = some (DicP X.w a xs)) (ks : PKeys H xs) (eb : PAt H b k) (h : ∀ s', Inv X pins σ H s' → Q (.bool (valP xs k).isSome) s') :
    wpAny (model X.prog X.w) A (compareOp .In (.ref b) (.ref a)) Q E s := by
  obtain ⟨hd, z, us, rel, dd⟩ := dicP_of I.hok e ks
  refine wpAny_in_heap (knd := pairKind X.prog X.w) (show A.units + 1 + 1 < cLine from hu) (pAt_is I.hok eb) hd dd ?_
  have q := (rel.val k).isSome_eq
  rw [Option.isSome_map] at q
  rw [← q]
  exact h _ (I.tok _)
theorem p_notIn {Q : Value → Shared → Prop} (hu : A.units + 2 < cLine) (I : Inv X pins σ H s) (e : H a = some (DicP X.w a xs)) (ks : PKeys H xs) (eb : PAt H b k) (h : ∀ s', Inv X pins σ H s' → Q (.bool (!(valP xs k).isSome)) s') :
    wpAny (model X.prog X.w) A (compareOp .NotIn (.ref b) (.ref a)) Q E s := by
  obtain ⟨hd, z, us, rel, dd⟩ := dicP_of I.hok e ks
  refine wpAny_notIn_heap (knd := pairKind X.prog X.w) (show A.units + 1 + 1 < cLine from hu) (pAt_is I.hok eb) hd dd ?_
  have q := (rel.val k).isSome_eq
  rw [Option.isSome_map] at q
  rw [← q]
  exact h _ (I.tok _)
theorem p_new {H' : Hp} {h' : Heap} {us : List (PKey × Addr × Value)} (hd : (a == sysModules) = false) (hl : xs.length ≤ sizeLine) (r : PV xs us) (dd : h'.DictOfH (pairKind X.prog X.w) a us) : ObjOk X.prog X.w H' h' a (DicP X.w a xs) := by
  obtain ⟨o, es, ep, e1, e2, e3, e4, _, _⟩ := dd
  exact isP_ok ⟨hd, hl, us, r, o, es, ep, e1, e2, e3, e4⟩
/-- d[k] = v -/
theorem p_setItem {Q : Unit → Shared → Prop} (hu : A.units + 2 < cLine) (I : Inv X pins σ H s) (e : H a = some (DicP X.w a xs)) (ks : PKeys H xs) (eb : PAt H b k) (hl : xs.length < sizeLine) (rv : RelV v r)
    (h : ∀ s', Inv X pins σ (upd H a (DicP X.w a (putP xs k b v))) s' → Q () s') : wpAny (model X.prog X.w) A (setItem (.ref a) (.ref b) r) Q E s := by
  obtain ⟨hd, z, us, rel, dd⟩ := dicP_of I.hok e ks
  have hz : us.length ≤ sizeLine := by rw [← Paired.length rel]; exact z
  refine wpAny_setItem_heap (knd := pairKind X.prog X.w) (hsz := hz) (show A.units + 1 + 1 < cLine from hu) (pAt_is I.hok eb) dd fun h' dd' hs => h _ ?_
  have he : ∃ q, h'.get? a = some q := let ⟨q, _, _, hq, _⟩ := dd'; ⟨q, hq⟩
  exact d_write I (by rw [e]; exact True.intro) hs he (p_new hd (Nat.le_trans putP_len hl) (rel.put k rv) dd')
theorem p_dictSet {Q : Unit → Shared → Prop} (hu : A.units + 2 < cLine) (I : Inv X pins σ H s) (e : H a = some (DicP X.w a xs)) (ks : PKeys H xs) (eb : PAt H b k) (hl : xs.length < sizeLine) (rv : RelV v r)
    (h : ∀ s', Inv X pins σ (upd H a (DicP X.w a (putP xs k b v))) s' → Q () s') : wpAny (model X.prog X.w) A (dictSet a (.ref b) r) Q E s := by
  obtain ⟨hd, z, us, rel, dd⟩ := dicP_of I.hok e ks
  have hz : us.length ≤ sizeLine := by rw [← Paired.length rel]; exact z
  refine wpAny_dictSet_heap (knd := pairKind X.prog X.w) (hsz := hz) (show A.units + 1 < cLine by omega) (pAt_is I.hok eb) dd fun h' dd' hs => h _ ?_
  have he : ∃ q, h'.get? a = some q := let ⟨q, _, _, hq, _⟩ := dd'; ⟨q, hq⟩
  exact d_write I (by rw [e]; exact True.intro) hs he (p_new hd (Nat.le_trans putP_len hl) (rel.put k rv) dd')
/-- d[k] = v, d a dict whose keys are tuples, by a comprehension -/
theorem t_dictSet {kvs : List (List Key × V)} {kt : List Key} {Q : Unit → Shared → Prop} (hu : A.units + 1 < cLine) (I : Inv X pins σ H s) (e : H a = some (.dT kvs)) (eb : H b = some (.tup (kt.map kV))) (l : kvs.length < sizeLine) (rv : RelV v r)
    (h : ∀ s', Inv X pins σ (upd H a (.dT (putK kvs kt v))) s' → Q () s') : wpAny (model X.prog X.w) A (dictSet a (.ref b) r) Q E s := by
  obtain ⟨z, hd, xs, rel, dd⟩ := dt_of I.hok e
  have hz : xs.length ≤ sizeLine := by rw [← Paired.length rel]; exact z
  have hl : (putK kvs kt v).length ≤ sizeLine := by have := length_putK kvs kt v; omega
  refine wpAny_dictSet_heap (hsz := hz) (show A.units < cLine by omega) (key_of I.hok eb) dd fun h' dd' hs => h _ ?_
  obtain ⟨q, es, ep, hq, h2, h3, h4, _, h5⟩ := dd'
  refine d_write I (by rw [e]; exact True.intro) hs ⟨q, hq⟩ ⟨hl, hd, _, (rel.put kt eb rv).keeps fun c ys ec => ?_, q, es, ep, hq, h2, h3, h4, h5⟩
  rw [upd_ne (ne_of ec e (fun z => nomatch z))]
  exact ec
end
/-! ### any dict -/
def DGetY (w : World) (H : Hp) (a : Addr) (y : V) (o : Option V) : Prop := DGet H a y o ∨ ∃ xs k b, H a = some (DicP w a xs) ∧ PKeys H xs ∧ y = .ref b ∧ PAt H b k ∧ o = valP xs k
def DPutY (w : World) (H : Hp) (a : Addr) (y v : V) (H' : Hp) : Prop := DPut H a y v H' ∨ ∃ xs k b, H a = some (DicP w a xs) ∧ PKeys H xs ∧ y = .ref b ∧ PAt H b k ∧ xs.length < sizeLine ∧ H' = upd H a (DicP w a (putP xs k b v))
section
variable {X : Cx} {pins : List (Addr × Obj)} {σ : L2.St} {H : Hp} {s : Shared} {a b : Addr} {k : PKey} {y v : V} {u r : Value} {o : Option V} {xs : List (PKey × Addr × V)} {A : Around} {E : Value → Shared → Prop}
theorem dy_getItem {Q : Value → Shared → Prop} (hu : A.units + 2 < cLine) (I : Inv X pins σ H s) (g : DGetY X.w H a y (some v)) (ry : RelV y u) (h : ∀ w' s', Inv X pins σ H s' → RelV v w' → Q w' s') :
    wpAny (model X.prog X.w) A (getItem (.ref a) u) Q E s := by
  rcases g with g | ⟨xs, k, b, e, ks, rfl, eb, l⟩
  · exact d_getItem (by omega) I g ry h
  · cases (show u = Value.ref b from ry)
    exact p_getItem hu I e ks eb l.symm h
theorem dy_in {Q : Value → Shared → Prop} (hu : A.units + 2 < cLine) (I : Inv X pins σ H s) (g : DGetY X.w H a y o) (ry : RelV y u) (h : ∀ s', Inv X pins σ H s' → Q (.bool o.isSome) s') : wpAny (model X.prog X.w) A (compareOp .In u (.ref a)) Q E s := by
  rcases g with g | ⟨xs, k, b, e, ks, rfl, eb, l⟩
  · exact d_in (by omega) I g ry h
  · cases (show u = Value.ref b from ry)
    subst l
    exact p_in hu I e ks eb h
theorem dy_notIn {Q : Value → Shared → Prop} (hu : A.units + 2 < cLine) (I : Inv X pins σ H s) (g : DGetY X.w H a y o) (ry : RelV y u) (h : ∀ s', Inv X pins σ H s' → Q (.bool (!o.isSome)) s') : wpAny (model X.prog X.w) A (compareOp .NotIn u (.ref a)) Q E s := by
  rcases g with g | ⟨xs, k, b, e, ks, rfl, eb, l⟩
  · exact d_notIn (by omega) I g ry h
  · cases (show u = Value.ref b from ry)
    subst l
    exact p_notIn hu I e ks eb h
theorem dy_setItem {H' : Hp} {Q : Unit → Shared → Prop} (hu : A.units + 2 < cLine) (I : Inv X pins σ H s) (g : DPutY X.w H a y v H') (ry : RelV y u) (rv : RelV v r) (h : ∀ s', Inv X pins σ H' s' → Q () s') : wpAny (model X.prog X.w) A (setItem (.ref a) u r) Q E s := by
  rcases g with g | ⟨xs, k, b, e, ks, rfl, eb, l, rfl⟩
  · exact d_setItem (by omega) I g ry rv h
  · cases (show u = Value.ref b from ry)
    exact p_setItem hu I e ks eb l rv h
theorem dicP_type (I : Inv X pins σ H s) (e : H a = some (DicP X.w a xs)) : s.TypeIs (.ref a) "dict" := by
  obtain ⟨⟨_, _, _, _, o, _, _, e1, e2, _⟩, _⟩ := (show ObjOk X.prog X.w H s.heap a (DicP X.w a xs) from I.hok a _ e)
  exact ⟨o, e1, e2.1⟩
theorem dy_typeIs (I : Inv X pins σ H s) (g : DGetY X.w H a y o) : s.TypeIs (.ref a) "dict" := by
  rcases g with g | ⟨xs, k, b, e, _⟩
  · exact dict_typeIs I g
  · exact dicP_type I e
end
end XP

set_option Elab.async false
set_option linter.all false
set_option maxRecDepth 100000
set_option maxHeartbeats 2000000
namespace Y
open PySem PySem.Spec PyProof.Rows L2
/-- the tables of code: where each stands, what its code objects are called -/
class Tb (w : outParam World) where
  T : List (Addr × (Nat → Nat → Str))
/-- the table at P: not among what stays; each code object that it tells is known -/
def TabY (B H : Hp) (P : Addr) (nm : Nat → Nat → Str) : Prop := B P = none ∧ ∃ ps : Array Value, H P = some (.tbl ps) ∧ TriplesOk ps.toList ∧ ∀ (pos : Pos) (cv : Value), codeAmong pos ps.toList = some cv → ∃ c, cv = .ref c ∧ B c = some (LamX.CodeO c (nm pos.line pos.col))
variable {w : World} [Tb w]
def TbOk (w : World) [Tb w] (B H : Hp) (α : List Addr) : Prop := ∀ p ∈ Tb.T (w := w), p.1 ∉ α ∧ TabY B H p.1 p.2
/-! ### plain data; what stands for it -/
inductive D where
  | non | bl (b : Bool) | int (i : Int) | str (x : Str) | fn (a : Addr) | tup (ds : List D) | ktup (ds : List D) | lst (ds : List D) | klst (ds : List D) | dicK (ks : List Key) (ds : List D) | dicT (ks : List (List Key)) (ds : List D) | dicP (ks : List XP.PKey) (ds : List D) | clo (f : Addr) (o : HO) (c : Addr) (u : HO) (ws : List V) (wd : List D)
mutual
inductive R {w : World} [Tb w] (K : PySem.W.Frag) (B : Hp) : V → D → Prop
  | non : R K B .non .non
  | bl (b : Bool) : R K B (.bl b) (.bl b)
  | int (i : Int) : R K B (.int i) (.int i)
  | str (x : Str) : R K B (.str x) (.str x)
  | fn (a : Addr) : R K B (.ref a) (.fn a)
  | tup {a : Addr} {xs : List V} {ds : List D} (h : B a = some (.tup xs)) (t : Rs K B xs ds) : R K B (.ref a) (.tup ds)
  | ktup {a : Addr} {xs : List V} {ds : List D} (h : SqT K B a xs) (t : Rs K B xs ds) : R K B (.ref a) (.ktup ds)
  | lst {a : Addr} {xs : List V} {ds : List D} (h : B a = some (.lst xs)) (t : Rs K B xs ds) : R K B (.ref a) (.lst ds)
  | klst {a : Addr} {xs : List V} {ds : List D} (h : SqL K B a xs) (t : Rs K B xs ds) : R K B (.ref a) (.klst ds)
  | dicK {a : Addr} {ys : List (Key × V)} {ds : List D} (h : B a = some (.dK ys)) (t : Rs K B (ys.map (·.2)) ds) : R K B (.ref a) (.dicK (ys.map (·.1)) ds)
  | dicT {a : Addr} {ys : List (List Key × V)} {ds : List D} (h : B a = some (.dT ys)) (t : Rs K B (ys.map (·.2)) ds) : R K B (.ref a) (.dicT (ys.map (·.1)) ds)
  | dicP {a : Addr} {ys : List (XP.PKey × Addr × V)} {ds : List D} (h : B a = some (XP.DicP w a ys)) (k : XP.PKeys B ys) (t : Rs K B (ys.map (·.2.2)) ds) : R K B (.ref a) (.dicP (ys.map (·.1)) ds)
  | clo {f c : Addr} {o u : HO} {ws : List V} {wd : List D} (h1 : B f = some o) (h2 : B c = some u) (t : Rs K B ws wd) : R K B (.ref f) (.clo f o c u ws wd)
inductive Rs {w : World} [Tb w] (K : PySem.W.Frag) (B : Hp) : List V → List D → Prop
  | nil : Rs K B [] []
  | cons {v : V} {d : D} {vs : List V} {ds : List D} (h : R K B v d) (t : Rs K B vs ds) : Rs K B (v :: vs) (d :: ds)
end
theorem sameT {K : PySem.W.Frag} {H H' : Hp} {a : Addr} {xs : List V} (e : Same H H') (h : SqT K H a xs) : SqT K H' a xs := by
  rcases h with (h | ⟨o, h⟩) | h
  · exact .inl (.inl (e _ _ h))
  · exact .inl (.inr ⟨o, e _ _ h⟩)
  · exact .inr h
theorem pat_mono {B B' : Hp} (g : Same B B') {b : Addr} {k : XP.PKey} (h : XP.PAt B b k) : XP.PAt B' b k := let ⟨c, e1, e2⟩ := h; ⟨c, g _ _ e1, g _ _ e2⟩
theorem pkeys_mono {B B' : Hp} (g : Same B B') {ys : List (XP.PKey × Addr × V)} (h : XP.PKeys B ys) : XP.PKeys B' ys := ⟨fun x hx => pat_mono g (h.1 x hx), h.2⟩
section
variable {K : PySem.W.Frag} {B B' : Hp}
mutual
theorem R.mono (g : Same B B') : ∀ {v : V} {d : D}, R K B v d → R K B' v d
  | _, _, .non => .non
  | _, _, .bl b => .bl b
  | _, _, .int i => .int i
  | _, _, .str x => .str x
  | _, _, .fn a => .fn a
  | _, _, .tup h t => .tup (g _ _ h) (Rs.mono g t)
  | _, _, .ktup h t => .ktup (sameT g h) (Rs.mono g t)
  | _, _, .lst h t => .lst (g _ _ h) (Rs.mono g t)
  | _, _, .klst h t => .klst (g.seq h) (Rs.mono g t)
  | _, _, .dicK h t => .dicK (g _ _ h) (Rs.mono g t)
  | _, _, .dicT h t => .dicT (g _ _ h) (Rs.mono g t)
  | _, _, .dicP h k t => .dicP (g _ _ h) (pkeys_mono g k) (Rs.mono g t)
  | _, _, .clo h1 h2 t => .clo (g _ _ h1) (g _ _ h2) (Rs.mono g t)
theorem Rs.mono (g : Same B B') : ∀ {vs : List V} {ds : List D}, Rs K B vs ds → Rs K B' vs ds
  | _, _, .nil => .nil
  | _, _, .cons h t => .cons (R.mono g h) (Rs.mono g t)
end
theorem Rs.len : ∀ {vs : List V} {ds : List D}, Rs K B vs ds → vs.length = ds.length
  | _, _, .nil => rfl
  | _, _, .cons _ t => congrArg (· + 1) t.len
theorem Rs.get : ∀ {vs : List V} {ds : List D} {i : Nat} {d : D}, Rs K B vs ds → ds[i]? = some d → ∃ v, vs[i]? = some v ∧ R K B v d
  | _, _, i, d, .nil, e => by simp at e
  | _, _, 0, d, .cons h _, e => by simp at e; subst e; exact ⟨_, rfl, h⟩
  | _, _, i + 1, d, .cons _ t, e => by
    obtain ⟨v, a, b⟩ := t.get (i := i) (by simpa using e)
    exact ⟨v, by simpa using a, b⟩
theorem Rs.append : ∀ {vs us : List V} {ds es : List D}, Rs K B vs ds → Rs K B us es → Rs K B (vs ++ us) (ds ++ es)
  | _, _, _, _, .nil, h => h
  | _, _, _, _, .cons h t, q => .cons h (t.append q)
theorem Rs.take : ∀ {vs : List V} {ds : List D} (n : Nat), Rs K B vs ds → Rs K B (vs.take n) (ds.take n)
  | _, _, 0, _ => .nil
  | _, _, _ + 1, .nil => .nil
  | _, _, n + 1, .cons h t => .cons h (t.take n)
theorem Rs.drop : ∀ {vs : List V} {ds : List D} (n : Nat), Rs K B vs ds → Rs K B (vs.drop n) (ds.drop n)
  | _, _, 0, h => h
  | _, _, _ + 1, .nil => .nil
  | _, _, n + 1, .cons _ t => t.drop n
theorem Rs.snoc {vs : List V} {ds : List D} {v : V} {d : D} (t : Rs K B vs ds) (h : R K B v d) : Rs K B (vs ++ [v]) (ds ++ [d]) := t.append (.cons h .nil)
theorem Rs.paired : ∀ {vs : List V} {ds : List D}, Rs K B vs ds → Paired (R K B) vs ds
  | _, _, .nil => .nil
  | _, _, .cons h t => .cons h t.paired
theorem Rs.of : ∀ {vs : List V} {ds : List D}, Paired (R K B) vs ds → Rs K B vs ds
  | _, _, .nil => .nil
  | _, _, .cons h t => .cons h (Rs.of t)
theorem Rs.reverse : ∀ {vs : List V} {ds : List D}, Rs K B vs ds → Rs K B vs.reverse ds.reverse
  | _, _, .nil => .nil
  | _, _, .cons h t => by
    rw [List.reverse_cons, List.reverse_cons]
    exact t.reverse.snoc h
end
/-- in a slot: data that stay, or an object that changes, by its number -/
inductive S where
  | d (x : D) | pin (j : Nat)
/-- an object that changes -/
inductive Cell where
  | dead | lst (ss : List S) | dK (kvs : List (Key × S)) | dT (kvs : List (List Key × S)) | ins (C : Addr) (fs : List (Str × S)) | tape | dP (kvs : List (XP.PKey × S))
def RS (K : PySem.W.Frag) (α : List Addr) (B : Hp) (v : V) : S → Prop
  | .d x => R K B v x
  | .pin j => ∃ a, α[j]? = some a ∧ v = .ref a
def RK {κ : Type} (K : PySem.W.Frag) (α : List Addr) (B : Hp) : List (κ × V) → List (κ × S) → Prop := Paired fun p q => p.1 = q.1 ∧ RS K α B p.2 q.2
def CellOk (K : PySem.W.Frag) (α : List Addr) (B H : Hp) (a : Addr) : Cell → Prop
  | .dead => True
  | .lst ss => B a = none ∧ ∃ xs, H a = some (.lst xs) ∧ Paired (RS K α B) xs ss
  | .dK kvs => B a = none ∧ ∃ ys, H a = some (.dK ys) ∧ RK K α B ys kvs
  | .dT kvs => B a = none ∧ ∃ ys, H a = some (.dT ys) ∧ RK K α B ys kvs
  | .ins C fs => B a = none ∧ ∃ dx ys, H a = some (.ins C dx ys) ∧ RK K α B ys fs
  | .dP kvs => B a = none ∧ ∃ ys, H a = some (XP.DicP w a ys) ∧ XP.PKeys B ys ∧ Paired (fun p q => p.1 = q.1 ∧ RS K α B p.2.2 q.2) ys kvs
  | .tape => B a = none ∧ ∃ (kvs : List (Key × V)) (c : Addr) (ns : List Int), H a = some (.dK kvs) ∧ kvs.length ≤ 5 ∧ valV kvs (Sum.inr "cells" : Key) = some (.ref c) ∧ B c = some (.lst (ns.map V.int)) ∧ ns.length ≤ 1000 ∧
      (∃ z : Int, valV kvs (Sum.inr "at" : Key) = some (.int z) ∧ 0 ≤ z) ∧ (∃ z : Int, valV kvs (Sum.inr "left" : Key) = some (.int z)) ∧ (∃ z : Int, valV kvs (Sum.inr "seed" : Key) = some (.int z)) ∧ ∃ z : Int, valV kvs (Sum.inr "salt" : Key) = some (.int z)
theorem pre_get {α : List Addr} {β : List Addr} {j : Nat} {a : Addr} (h : α[j]? = some a) : (α ++ β)[j]? = some a := by
  rw [List.getElem?_append_left (List.getElem?_eq_some_iff.mp h).1]
  exact h
theorem RS.mono {K : PySem.W.Frag} {α β : List Addr} {B B' : Hp} (g : Same B B') {v : V} : ∀ {s : S}, RS K α B v s → RS K (α ++ β) B' v s
  | .d _, h => R.mono g h
  | .pin _, ⟨a, h, e⟩ => ⟨a, pre_get h, e⟩
theorem paired_mono {α β : Type} {F G : α → β → Prop} (g : ∀ a b, F a b → G a b) : ∀ {l : List α} {m : List β}, Paired F l m → Paired G l m
  | _, _, .nil => .nil
  | _, _, .cons h t => .cons (g _ _ h) (paired_mono g t)
theorem CellOk.mono {K : PySem.W.Frag} {α β : List Addr} {B B' H H' : Hp} {a : Addr} (g : Same B B') (hB : B a = none → B' a = none) (hH : H' a = H a) : ∀ {c : Cell}, CellOk K α B H a c → CellOk K (α ++ β) B' H' a c
  | .dead, _ => True.intro
  | .lst ss, ⟨n, xs, e, p⟩ => ⟨hB n, xs, hH.trans e, paired_mono (fun _ _ h => RS.mono g h) p⟩
  | .dK kvs, ⟨n, ys, e, p⟩ => ⟨hB n, ys, hH.trans e, paired_mono (fun _ _ h => ⟨h.1, RS.mono g h.2⟩) p⟩
  | .dT kvs, ⟨n, ys, e, p⟩ => ⟨hB n, ys, hH.trans e, paired_mono (fun _ _ h => ⟨h.1, RS.mono g h.2⟩) p⟩
  | .ins C fs, ⟨n, dx, ys, e, p⟩ => ⟨hB n, dx, ys, hH.trans e, paired_mono (fun _ _ h => ⟨h.1, RS.mono g h.2⟩) p⟩
  | .dP kvs, ⟨n, ys, e, k, p⟩ => ⟨hB n, ys, hH.trans e, pkeys_mono g k, paired_mono (fun _ _ h => ⟨h.1, RS.mono g h.2⟩) p⟩
  | .tape, ⟨n, kvs, c, ns, e, l, e1, e2, r⟩ => ⟨hB n, kvs, c, ns, hH.trans e, l, e1, g _ _ e2, r⟩
/-! ### frames and worlds -/
structure Phi where
  B : Hp
  H : Hp
  α : List Addr
structure Frame (Φ : Phi) (B H : Hp) (α : List Addr) : Prop where
  bb : Same Φ.B B
  bh : Same B H
  hh : ∀ b o, b ∉ Φ.α → Φ.H b = some o → H b = some o ∨ ((∃ ps, o = .tbl ps) ∧ ∃ ps, H b = some (.tbl ps))
  fr : ∀ a o, B a = some o → (∃ u, Φ.B a = some u) ∨ Φ.H a = none ∨ a ∈ Φ.α
  pre : ∃ β, α = Φ.α ++ β ∧ ∀ a ∈ β, Φ.H a = none ∨ a ∈ Φ.α
theorem Frame.live {Φ : Phi} {B H : Hp} {α : List Addr} (f : Frame Φ B H α) {b : Addr} {o : HO} (m : b ∉ Φ.α) (h : Φ.H b = some o) : ∃ o', H b = some o' := by
  rcases f.hh b o m h with z | ⟨_, ps, z⟩ <;> exact ⟨_, z⟩
theorem Frame.keep {Φ : Phi} {B H : Hp} {α : List Addr} (f : Frame Φ B H α) {b : Addr} {o : HO} (m : b ∉ Φ.α) (h : Φ.H b = some o) (n : ∀ ps, o ≠ .tbl ps) : H b = some o := by
  rcases f.hh b o m h with z | ⟨⟨ps, e⟩, _⟩
  · exact z
  · exact absurd e (n ps)
structure Wld {w : World} [Tb w] (K : PySem.W.Frag) (B H : Hp) (α : List Addr) (ω : List Cell) : Prop where
  tb : TbOk w B H α
  nd : α.Nodup
  len : α.length = ω.length
  tr : ∀ a ∈ α, ∃ o, H a = some o
  cell : ∀ (j : Nat) (a : Addr) (c : Cell), α[j]? = some a → ω[j]? = some c → CellOk K α B H a c
def Slots (K : PySem.W.Frag) (α : List Addr) (B : Hp) (σ : L2.St) (ρ : List (Option S)) : Prop := σ.length = ρ.length ∧ ∀ (i : Nat) (s : S), ρ[i]? = some (some s) → ∃ v, σ[i]? = some (some v) ∧ RS K α B v s
structure StB (Φ : Phi) (K : PySem.W.Frag) (B : Hp) (α : List Addr) (H : Hp) (σ : L2.St) (ρ : List (Option S)) (ω : List Cell) (T : List (V × S)) : Prop where
  fr : Frame Φ B H α
  wd : Wld K B H α ω
  sl : Slots K α B σ ρ
  tm : ∀ p ∈ T, RS K α B p.1 p.2
def St (Φ : Phi) (K : PySem.W.Frag) (H : Hp) (σ : L2.St) (ρ : List (Option S)) (ω : List Cell) (T : List (V × S)) : Prop := ∃ B α, StB Φ K B α H σ ρ ω T
theorem Frame.refl {B H : Hp} {α : List Addr} (g : Same B H) : Frame ⟨B, H, α⟩ B H α := ⟨Same.refl B, g, fun _ _ _ h => .inl h, fun a o h => .inl ⟨o, h⟩, [], by simp, by simp⟩
theorem TbOk.ne {B H : Hp} {α : List Addr} (t : TbOk w B H α) {p : Addr} (hp : H p = none ∨ p ∈ α) : ∀ q ∈ Tb.T (w := w), q.1 ≠ p := fun q hq e => by
  obtain ⟨n, _, ps, e1, _⟩ := t q hq
  rcases hp with z | z
  · rw [e, z] at e1; cases e1
  · exact n (e ▸ z)
theorem TbOk.neO {B H : Hp} {α : List Addr} (t : TbOk w B H α) {p : Addr} {o : HO} (e : H p = some o) (n : ∀ ps, o ≠ .tbl ps) : ∀ q ∈ Tb.T (w := w), q.1 ≠ p := fun q hq z => by
  obtain ⟨_, _, ps, e1, _⟩ := t q hq
  rw [z, e] at e1
  exact n ps (Option.some.inj e1)
theorem TbOk.upN {B H : Hp} {α : List Addr} (t : TbOk w B H α) {p : Addr} (ne : ∀ q ∈ Tb.T (w := w), q.1 ≠ p) (o : HO) : TbOk w B (upd H p o) α := fun q hq => by
  obtain ⟨n, hB, ps, e1, e2⟩ := t q hq
  exact ⟨n, hB, ps, by rw [upd_ne (ne q hq)]; exact e1, e2⟩
theorem TbOk.upBN {B H : Hp} {α : List Addr} (t : TbOk w B H α) {p : Addr} (ne : ∀ q ∈ Tb.T (w := w), q.1 ≠ p) (hB : B p = none) (o : HO) : TbOk w (upd B p o) H α := fun q hq => by
  obtain ⟨n, hn, ps, e1, e2, e3⟩ := t q hq
  refine ⟨n, by rw [upd_ne (ne q hq)]; exact hn, ps, e1, e2, fun pos cv hc => ?_⟩
  obtain ⟨c, e4, e5⟩ := e3 pos cv hc
  exact ⟨c, e4, by rw [upd_ne (ne_of_none e5 hB)]; exact e5⟩
theorem TbOk.snocN {B H : Hp} {α : List Addr} (t : TbOk w B H α) {p : Addr} (ne : ∀ q ∈ Tb.T (w := w), q.1 ≠ p) : TbOk w B H (α ++ [p]) := fun q hq => by
  obtain ⟨n, r⟩ := t q hq
  exact ⟨fun m => (List.mem_append.mp m).elim n fun z => ne q hq (List.mem_singleton.mp z), r⟩
theorem TbOk.up {B H : Hp} {α : List Addr} (t : TbOk w B H α) {p : Addr} (hp : H p = none ∨ p ∈ α) (o : HO) : TbOk w B (upd H p o) α := fun q hq => by
  have ne := t.ne hp q hq
  obtain ⟨n, hB, ps, e1, e2⟩ := t q hq
  exact ⟨n, hB, ps, by rw [upd_ne ne]; exact e1, e2⟩
theorem TbOk.upB {B H : Hp} {α : List Addr} (t : TbOk w B H α) {p : Addr} (hp : H p = none ∨ p ∈ α) (hB : B p = none) (o : HO) : TbOk w (upd B p o) H α := fun q hq => by
  have ne := t.ne hp q hq
  obtain ⟨n, hn, ps, e1, e2, e3⟩ := t q hq
  refine ⟨n, by rw [upd_ne ne]; exact hn, ps, e1, e2, fun pos cv hc => ?_⟩
  obtain ⟨c, e4, e5⟩ := e3 pos cv hc
  exact ⟨c, e4, by rw [upd_ne (ne_of_none e5 hB)]; exact e5⟩
theorem TbOk.snoc {B H : Hp} {α : List Addr} (t : TbOk w B H α) {p : Addr} (hp : H p = none) : TbOk w B H (α ++ [p]) := fun q hq => by
  have ne := t.ne (.inl hp) q hq
  obtain ⟨n, r⟩ := t q hq
  exact ⟨fun m => (List.mem_append.mp m).elim n fun z => ne (List.mem_singleton.mp z), r⟩
theorem TbOk.nil {B H : Hp} {α : List Addr} (t : TbOk w B H α) : TbOk w B H [] := fun q hq => ⟨by simp, (t q hq).2⟩
theorem TbOk.of {B H B' H' : Hp} {α : List Addr} (t : TbOk w B H α) (t' : TbOk w B' H' []) : TbOk w B' H' α := fun q hq => ⟨(t q hq).1, (t' q hq).2⟩
theorem Frame.trans {Φ : Phi} {B1 H1 B2 H2 : Hp} {α1 α2 : List Addr} (f : Frame Φ B1 H1 α1) (g : Frame ⟨B1, H1, α1⟩ B2 H2 α2) : Frame Φ B2 H2 α2 := by
  obtain ⟨β, e1, n1⟩ := f.pre
  obtain ⟨γ, e2, n2⟩ := g.pre
  have old : ∀ a, H1 a = none → Φ.H a = none ∨ a ∈ Φ.α := fun a h => by
    by_cases m : a ∈ Φ.α
    · exact .inr m
    · cases q : Φ.H a with
      | none => exact .inl rfl
      | some o => obtain ⟨o', z⟩ := f.live m q; rw [z] at h; cases h
  have in1 : ∀ a, a ∈ α1 → Φ.H a = none ∨ a ∈ Φ.α := fun a h => by
    rw [e1, List.mem_append] at h
    rcases h with h | h
    · exact .inr h
    · exact n1 a h
  refine ⟨f.bb.trans g.bb, g.bh, fun b o m h => ?_, fun a o h => ?_, β ++ γ, ?_, fun a h => ?_⟩
  · have nb : b ∉ α1 := fun z => by
      rcases in1 b z with q | q
      · rw [q] at h; cases h
      · exact m q
    rcases f.hh b o m h with z | ⟨z, ps, y⟩
    · exact g.hh b o nb z
    · refine .inr ⟨z, ?_⟩
      rcases g.hh b _ nb y with x | ⟨_, x⟩
      · exact ⟨ps, x⟩
      · exact x
  · rcases g.fr a o h with ⟨u, q⟩ | q | q
    · exact f.fr a u q
    · exact .inr (old a q)
    · exact .inr (in1 a q)
  · have e2' : α2 = α1 ++ γ := e2
    rw [e2', e1, List.append_assoc]
  · rcases List.mem_append.mp h with h | h
    · exact n1 a h
    · rcases n2 a h with q | q
      · exact old a q
      · exact in1 a q
section
variable {Φ : Phi} {K : PySem.W.Frag} {B B' H H' : Hp} {α α' : List Addr} {σ σ' : L2.St} {ρ ρ' : List (Option S)} {ω ω' : List Cell} {T T' : List (V × S)}
theorem Slots.mono (g : Same B B') (h : Slots K α B σ ρ) (e : ∃ β, α' = α ++ β) : Slots K α' B' σ ρ := by
  obtain ⟨β, rfl⟩ := e
  exact ⟨h.1, fun i s q => let ⟨v, a, b⟩ := h.2 i s q; ⟨v, a, b.mono g⟩⟩
theorem StB.step (s : StB Φ K B α H σ ρ ω T) (f : Frame ⟨B, H, α⟩ B' H' α') (w : Wld K B' H' α' ω') : StB Φ K B' α' H' σ ρ ω' T := by
  obtain ⟨β, e, _⟩ := f.pre
  exact ⟨s.fr.trans f, w, s.sl.mono f.bb ⟨β, e⟩, fun p hp => by
    have e : α' = α ++ β := e
    subst e
    exact (s.tm p hp).mono f.bb⟩
theorem StB.push (s : StB Φ K B α H σ ρ ω T) {v : V} {x : S} (h : RS K α B v x) : StB Φ K B α H σ ρ ω ((v, x) :: T) := ⟨s.fr, s.wd, s.sl, fun p hp => by
  rcases List.mem_cons.mp hp with rfl | hp
  · exact h
  · exact s.tm p hp⟩
theorem StB.pushD (s : StB Φ K B α H σ ρ ω T) {v : V} {x : D} (h : R K B v x) : StB Φ K B α H σ ρ ω ((v, .d x) :: T) := s.push (x := .d x) h
theorem StB.sub (s : StB Φ K B α H σ ρ ω T) (h : ∀ p ∈ T', p ∈ T) : StB Φ K B α H σ ρ ω T' := ⟨s.fr, s.wd, s.sl, fun p hp => s.tm p (h p hp)⟩
theorem St.sub (s : St Φ K H σ ρ ω T) (h : ∀ p ∈ T', p ∈ T) : St Φ K H σ ρ ω T' := let ⟨B, α, x⟩ := s; ⟨B, α, x.sub h⟩
theorem Wld.fresh (w : Wld K B H α ω) {p : Addr} (h : H p = none) : p ∉ α := fun m => by
  obtain ⟨o, e⟩ := w.tr p m
  rw [h] at e
  cases e
/-- a new object that stays -/
theorem Frame.froze (g : Same B H) (w : Wld K B H α ω) {p : Addr} (hp : H p = none) (o : HO) : Frame ⟨B, H, α⟩ (upd B p o) (upd H p o) α ∧ Wld K (upd B p o) (upd H p o) α ω := by
  have hB : B p = none := g.free hp
  have gB : Same B (upd B p o) := fun b u q => by rw [upd_ne (ne_of_none q hB)]; exact q
  have gH : Same H (upd H p o) := fun b u q => by rw [upd_ne (ne_of_none q hp)]; exact q
  have nm := w.fresh hp
  refine ⟨⟨gB, fun b u q => ?_, fun b u _ q => .inl (gH b u q), fun a u q => ?_, [], by simp, by simp⟩, (w.tb.upB (.inl hp) hB o).up (.inl hp) o, w.nd, w.len, fun a m => let ⟨u, q⟩ := w.tr a m; ⟨u, gH a u q⟩, fun j a c e1 e2 => ?_⟩
  · by_cases z : b = p
    · subst z; rw [upd_same] at q ⊢; exact q
    · rw [upd_ne z] at q ⊢; exact g b u q
  · by_cases z : a = p
    · subst z; exact .inr (.inl hp)
    · rw [upd_ne z] at q; exact .inl ⟨u, q⟩
  · have na : a ≠ p := fun z => nm (z ▸ List.mem_of_getElem? e1)
    have := (w.cell j a c e1 e2).mono (β := []) gB (fun z => by rw [upd_ne na]; exact z) (H' := upd H p o) (by rw [upd_ne na])
    simpa using this
/-- a new object that changes -/
theorem Frame.fresh (g : Same B H) (w : Wld K B H α ω) {p : Addr} (hp : H p = none) (o : HO) {c : Cell} (hc : CellOk K (α ++ [p]) B (upd H p o) p c) : Frame ⟨B, H, α⟩ B (upd H p o) (α ++ [p]) ∧ Wld K B (upd H p o) (α ++ [p]) (ω ++ [c]) := by
  have gH : Same H (upd H p o) := fun b u q => by rw [upd_ne (ne_of_none q hp)]; exact q
  have nm := w.fresh hp
  refine ⟨⟨Same.refl B, fun b u q => gH b u (g b u q), fun b u _ q => .inl (gH b u q), fun a u q => .inl ⟨u, q⟩, [p], rfl, fun a m => by rw [List.mem_singleton.mp m]; exact .inl hp⟩, (w.tb.snoc hp).up (.inr (by simp)) o, ?_, by simp [w.len], fun a m => ?_, fun j a c' e1 e2 => ?_⟩
  · rw [List.nodup_append]
    exact ⟨w.nd, by simp, fun a ha b hb => by rw [List.mem_singleton.mp hb]; exact fun z => nm (z ▸ ha)⟩
  · rcases List.mem_append.mp m with m | m
    · obtain ⟨u, q⟩ := w.tr a m
      exact ⟨u, gH a u q⟩
    · rw [List.mem_singleton.mp m]
      exact ⟨o, upd_same⟩
  · by_cases hj : j < α.length
    · rw [List.getElem?_append_left hj] at e1
      rw [List.getElem?_append_left (by rw [← w.len]; exact hj)] at e2
      have na : a ≠ p := fun z => nm (z ▸ List.mem_of_getElem? e1)
      exact (w.cell j a c' e1 e2).mono (Same.refl B) id (by rw [upd_ne na])
    · have hl : j < (α ++ [p]).length := (List.getElem?_eq_some_iff.mp e1).1
      have : j = α.length := by simp at hl; omega
      subst this
      rw [List.getElem?_append_right (Nat.le_refl _)] at e1
      rw [w.len, List.getElem?_append_right (Nat.le_refl _)] at e2
      simp at e1 e2
      subst e1 e2
      exact hc
theorem nodup_get {a : Addr} : ∀ {l : List Addr} {i j : Nat}, l.Nodup → l[i]? = some a → l[j]? = some a → i = j
  | [], _, _, _, h, _ => by simp at h
  | x :: l, 0, 0, _, _, _ => rfl
  | x :: l, 0, j + 1, n, h1, h2 => by
    simp at h1 h2
    subst h1
    exact absurd (List.mem_of_getElem? h2) (List.nodup_cons.mp n).1
  | x :: l, i + 1, 0, n, h1, h2 => by
    simp at h1 h2
    subst h2
    exact absurd (List.mem_of_getElem? h1) (List.nodup_cons.mp n).1
  | x :: l, i + 1, j + 1, n, h1, h2 => congrArg (· + 1) (nodup_get (List.nodup_cons.mp n).2 (by simpa using h1) (by simpa using h2))
/-- an object changes -/
theorem Frame.write (g : Same B H) (w : Wld K B H α ω) {j : Nat} {a : Addr} (ha : α[j]? = some a) (hb : B a = none) (o : HO) {c : Cell} (hc : CellOk K α B (upd H a o) a c) : Frame ⟨B, H, α⟩ B (upd H a o) α ∧ Wld K B (upd H a o) α (ω.set j c) := by
  have ma := List.mem_of_getElem? ha
  refine ⟨⟨Same.refl B, fun b u q => by rw [upd_ne (ne_of_none q hb)]; exact g b u q, fun b u m q => .inl (by rw [upd_ne (show b ≠ a from fun z => m (by rw [z]; exact ma))]; exact q), fun a u q => .inl ⟨u, q⟩, [], by simp, by simp⟩, w.tb.up (.inr ma) o, w.nd, by simp [w.len], fun b m => ?_, fun i b c' e1 e2 => ?_⟩
  · by_cases z : b = a
    · subst z; exact ⟨o, upd_same⟩
    · obtain ⟨u, q⟩ := w.tr b m
      exact ⟨u, by rw [upd_ne z]; exact q⟩
  · by_cases hi : i = j
    · subst hi
      have : b = a := Option.some.inj (e1.symm.trans ha)
      subst this
      rw [List.getElem?_set_self (by rw [← w.len]; exact (List.getElem?_eq_some_iff.mp ha).1)] at e2
      cases e2
      exact hc
    · rw [List.getElem?_set_ne (Ne.symm hi)] at e2
      have na : b ≠ a := fun z => hi (nodup_get w.nd e1 (z ▸ ha))
      have := (w.cell i b c' e1 e2).mono (β := []) (Same.refl B) id (H' := upd H a o) (by rw [upd_ne na])
      simpa using this
def allD : List S → Option (List D)
  | [] => some []
  | .d x :: ss => (allD ss).map (x :: ·)
  | .pin _ :: _ => none
theorem allD_map (ds : List D) : allD (ds.map .d) = some ds := by
  induction ds with
  | nil => rfl
  | cons x r ih => simp [allD, ih]
theorem allD_eq : ∀ {ss : List S} {ds : List D}, allD ss = some ds → ss = ds.map .d
  | [], ds, h => by cases h; rfl
  | .d x :: ss, ds, h => by
    simp only [allD, Option.map_eq_some_iff] at h
    obtain ⟨r, h1, rfl⟩ := h
    rw [allD_eq h1]
    rfl
  | .pin _ :: _, ds, h => by cases h
theorem rs_all {vs : List V} : ∀ {ss : List S} {ds : List D}, Paired (RS K α B) vs ss → allD ss = some ds → Rs K B vs ds := by
  intro ss ds p h
  obtain rfl := allD_eq h
  clear h
  induction ds generalizing vs with
  | nil => cases p; exact .nil
  | cons x r ih => cases p with | cons h t => exact .cons h (ih t)
/-- an object that changes no more -/
theorem Frame.stop (g : Same B H) (w : Wld K B H α ω) {j : Nat} {a : Addr} {ss : List S} {ds : List D} (ha : α[j]? = some a) (hc : ω[j]? = some (.lst ss)) (hd : allD ss = some ds) :
    ∃ B', Frame ⟨B, H, α⟩ B' H α ∧ Wld K B' H α (ω.set j .dead) ∧ R K B' (.ref a) (.lst ds) := by
  have ma := List.mem_of_getElem? ha
  obtain ⟨hb, xs, ex, p⟩ := w.cell j a _ ha hc
  have gB : Same B (upd B a (.lst xs)) := fun b u q => by rw [upd_ne (ne_of_none q hb)]; exact q
  refine ⟨upd B a (.lst xs), ⟨gB, fun b u q => ?_, fun _ _ _ q => .inl q, fun b u q => ?_, [], by simp, by simp⟩, ⟨w.tb.upB (.inr ma) hb _, w.nd, by simp [w.len], w.tr, fun i b c' e1 e2 => ?_⟩, .lst upd_same (Rs.mono gB (rs_all p hd))⟩
  · by_cases z : b = a
    · subst z; rw [upd_same] at q; cases q; exact ex
    · rw [upd_ne z] at q; exact g b u q
  · by_cases z : b = a
    · subst z; exact .inr (.inr ma)
    · rw [upd_ne z] at q; exact .inl ⟨u, q⟩
  · by_cases hi : i = j
    · subst hi
      rw [List.getElem?_set_self (by rw [← w.len]; exact (List.getElem?_eq_some_iff.mp ha).1)] at e2
      cases e2
      exact True.intro
    · rw [List.getElem?_set_ne (Ne.symm hi)] at e2
      have na : b ≠ a := fun z => hi (nodup_get w.nd e1 (z ▸ ha))
      have := (w.cell i b c' e1 e2).mono (β := []) gB (fun z => by rw [upd_ne na]; exact z) (H' := H) rfl
      simpa using this
end
end Y

set_option Elab.async false
set_option linter.all false
set_option maxRecDepth 100000
set_option maxHeartbeats 2000000
namespace Y
open PySem PySem.Spec PyProof.Rows L2
variable {w : World} [Tb w]
/-! ### what an expression, a test, an argument list, a statement means -/
abbrev Env := List (Option S)
abbrev Sto := List Cell
abbrev Ex := Addr × List (Str × D)
abbrev XD := Ex → Prop
abbrev TD := Env → Sto → (S → Sto → Prop) → XD → Prop
abbrev TTD := Env → Sto → (Bool → Sto → Prop) → XD → Prop
abbrev TAD := Env → Sto → (List S → Sto → Prop) → XD → Prop
/-- an exception that leaves -/
def XOk (Φ : Phi) (K : PySem.W.Frag) (x : XD) (E : XK) : Prop := ∀ C fs, x (C, fs) → ∀ B H α, Frame Φ B H α → (fs = [] → E (.ref C) none H) ∧
  (fs ≠ [] → ∀ d ys, H d = some (.xd ys) → B d = none → Φ.H d = none → d ∉ α → Paired (fun p q => p.1 = q.1 ∧ R K B p.2 q.2) ys fs → E (.ref C) (some d) H)
theorem XOk.never {Φ : Phi} {K : PySem.W.Frag} {E : XK} : XOk Φ K (fun _ => False) E := fun _ _ h => h.elim
theorem XOk.step {Φ : Phi} {K : PySem.W.Frag} {x : XD} {E : XK} {B H : Hp} {α : List Addr} (h : XOk Φ K x E) (f : Frame Φ B H α) : XOk ⟨B, H, α⟩ K x E := fun C fs hx B' H' α' g => by
  have g' := f.trans g
  refine ⟨(h C fs hx B' H' α' g').1, fun n d ys e1 e2 e3 e4 e5 => (h C fs hx B' H' α' g').2 n d ys e1 e2 ?_ e4 e5⟩
  have e3 : H d = none := e3
  obtain ⟨β, q, _⟩ := f.pre
  obtain ⟨γ, q2, _⟩ := g.pre
  cases z : Φ.H d with
  | none => rfl
  | some o =>
    exfalso
    have m : d ∈ Φ.α := Classical.byContradiction fun m => by
      obtain ⟨o', z'⟩ := f.live m z
      rw [z'] at e3
      cases e3
    have q2 : α' = α ++ γ := q2
    exact e4 (by rw [q2, q]; simp [m])
def Ref (K : PySem.W.Frag) (E : XK) (te : TE) (t : TD) : Prop := ∀ (Φ : Phi) (H : Hp) (σ : L2.St) (ρ : Env) (ω : Sto) (T : List (V × S)) (q : S → Sto → Prop) (Q : VK) (x : XD), St Φ K H σ ρ ω T → XOk Φ K x E →
  (∀ s ω' v H', q s ω' → St Φ K H' σ ρ ω' ((v, s) :: T) → Q v H') → t ρ ω q x → te σ H Q
def RefT (K : PySem.W.Frag) (E : XK) (tt : TT) (t : TTD) : Prop := ∀ (Φ : Phi) (H : Hp) (σ : L2.St) (ρ : Env) (ω : Sto) (T : List (V × S)) (q : Bool → Sto → Prop) (Q : Bool → Hp → Prop) (x : XD), St Φ K H σ ρ ω T → XOk Φ K x E →
  (∀ b ω' H', q b ω' → St Φ K H' σ ρ ω' T → Q b H') → t ρ ω q x → tt σ H Q
def RefA (K : PySem.W.Frag) (E : XK) (ta : TA) (t : TAD) : Prop := ∀ (Φ : Phi) (H : Hp) (σ : L2.St) (ρ : Env) (ω : Sto) (T : List (V × S)) (q : List S → Sto → Prop) (Q : List V → Hp → Prop) (x : XD), St Φ K H σ ρ ω T → XOk Φ K x E →
  (∀ ss ω' vs H', q ss ω' → vs.length = ss.length → St Φ K H' σ ρ ω' (vs.zip ss ++ T) → Q vs H') → t ρ ω q x → ta σ H Q
structure PD (X : Cx) (K : PySem.W.Frag) (E : XK) (e : Expr) (te : TE) (t : TD) : Prop where
  p : PE X e te
  r : Ref K E te t
structure PTD (X : Cx) (K : PySem.W.Frag) (E : XK) (e : Expr) (te : TT) (t : TTD) : Prop where
  p : PT X e te
  r : RefT K E te t
structure PWD (X : Cx) (K : PySem.W.Frag) (E : XK) (e : Expr) (te : TT) (t : TTD) : Prop where
  p : PW X e te
  r : RefT K E te t
structure PAD (X : Cx) (K : PySem.W.Frag) (E : XK) (es : List Expr) (te : TA) (t : TAD) : Prop where
  p : PA X es te
  r : RefA K E te t
theorem paired_zip {α β : Type} {F : α → β → Prop} : ∀ {l : List α} {m : List β}, l.length = m.length → (∀ p ∈ l.zip m, F p.1 p.2) → Paired F l m
  | [], [], _, _ => .nil
  | a :: l, b :: m, h, q => .cons (q (a, b) (by simp)) (paired_zip (by simpa using h) fun p hp => q p (by simp [hp]))
  | [], _ :: _, h, _ => by simp at h
  | _ :: _, [], h, _ => by simp at h
/-! ### names and constants -/
def dVar (i : Nat) : TD := fun ρ ω Q _ => match ρ[i]? with | some (some s) => Q s ω | _ => False
def dC (d : D) : TD := fun _ ω Q _ => Q (.d d) ω
section
variable {X : Cx} {E : XK} {K : PySem.W.Frag}
theorem St.push {Φ : Phi} {H : Hp} {σ : L2.St} {ρ : Env} {ω : Sto} {T : List (V × S)} (s : St Φ K H σ ρ ω T) {v : V} {d : D} (h : ∀ B, R K B v d) : St Φ K H σ ρ ω ((v, .d d) :: T) := let ⟨B, α, x⟩ := s; ⟨B, α, x.push (h B)⟩
theorem ref_var {i : Nat} : Ref K E (tVar i) (dVar i) := fun Φ H σ ρ ω T q Q x s _ k h => by
  obtain ⟨B, α, s⟩ := s
  unfold dVar at h
  split at h
  · rename_i y e
    obtain ⟨v, e1, r⟩ := s.sl.2 i y e
    exact ⟨v, e1, k _ _ v H h ⟨B, α, s.push r⟩⟩
  · exact h.elim
theorem ref_c {v : V} {d : D} (r : ∀ B, R K B v d) : Ref K E (tC v) (dC d) := fun Φ H σ ρ ω T q Q x s _ k h => k _ _ v H h (s.push r)
theorem y_var (i : Nat) {x : Str} {pos : Pos} (hN : X.N[i]? = some x := by rfl) (hv : Vis X.env.scope x := by first | exact Or.inl rfl | exact Or.inr (Or.inl rfl) | exact Or.inr (Or.inr rfl)) (hd : (x == ("__debug__" : Str)) = false := by decide)
    (hcd : (x == ("__classdict__" : Str)) = false := by decide) : PD X K E (.Name x pos) (tVar i) (dVar i) := ⟨pe_var hN hv hd hcd, ref_var⟩
theorem y_int {i j pos} : PD X K E (.Constant (.int i) j pos) (tC (.int i)) (dC (.int i)) := ⟨pe_int, ref_c fun _ => .int i⟩
theorem y_bl {b j pos} : PD X K E (.Constant (.bool b) j pos) (tC (.bl b)) (dC (.bl b)) := ⟨pe_bl, ref_c fun _ => .bl b⟩
theorem y_non {j pos} : PD X K E (.Constant .none j pos) (tC .non) (dC .non) := ⟨pe_non, ref_c fun _ => .non⟩
theorem y_str {x j pos} : PD X K E (.Constant (.str x) j pos) (tC (.str x)) (dC (.str x)) := ⟨pe_str, ref_c fun _ => .str x⟩
/-- a name of the module -/
theorem y_glob {x : Str} {v : V} {u : Value} {d : D} {pos : Pos} (hm : X.mg x = some u) (r : RelV v u) (rd : ∀ B, R K B v d) (hg : Gl X x := by rfl) (hd : (x == ("__debug__" : Str)) = false := by decide) : PD X K E (.Name x pos) (tC v) (dC d) := ⟨pe_glob hg hm r hd, ref_c rd⟩
theorem y_fn {x : Str} {f : Addr} {pos : Pos} (hm : X.mg x = some (.ref f)) (hg : Gl X x := by rfl) (hd : (x == ("__debug__" : Str)) = false := by decide) : PD X K E (.Name x pos) (tC (.ref f)) (dC (.fn f)) := y_glob (v := .ref f) hm rfl (fun _ => .fn f) hg hd
/-! ### argument lists, displays -/
def dNil : TAD := fun _ ω Q _ => Q [] ω
def dCons (t : TD) (u : TAD) : TAD := fun ρ ω Q x => t ρ ω (fun s ω1 => u ρ ω1 (fun ss ω2 => Q (s :: ss) ω2) x) x
theorem refA_nil : RefA K E tNil dNil := fun Φ H σ ρ ω T q Q x s _ k h => k [] ω [] H h rfl s
theorem refA_cons {te : TE} {ta : TA} {t : TD} {u : TAD} (h1 : Ref K E te t) (h2 : RefA K E ta u) : RefA K E (tCons te ta) (dCons t u) := fun Φ H σ ρ ω T q Q x s hx k h =>
  h1 Φ H σ ρ ω T _ _ x s hx (fun y ω1 v H1 h s1 => h2 Φ H1 σ ρ ω1 ((v, y) :: T) _ _ x s1 hx (fun ss ω2 vs H2 h l s2 => k _ _ (v :: vs) H2 h (by simp [l]) (s2.sub fun p hp => by
    simp only [List.zip_cons_cons, List.cons_append, List.mem_cons, List.mem_append] at hp ⊢
    rcases hp with h | h | h
    · exact .inr (.inl h)
    · exact .inl h
    · exact .inr (.inr h))) h) h
theorem ya_nil : PAD X K E [] (tNil) dNil := ⟨pa_nil, refA_nil⟩
theorem ya_cons {e : Expr} {es : List Expr} {t : TD} {u : TAD} (h1 : PD X K E e h1t t) (h2 : PAD X K E es h2t u) (hs : starEach (e :: es) X.env = (false, eval e X.env) :: starEach es X.env := by rfl) : PAD X K E (e :: es) (tCons h1t h2t) (dCons t u) := ⟨pa_cons h1.p h2.p hs, refA_cons h1.r h2.r⟩
theorem St.pair {Φ : Phi} {B : Hp} {α : List Addr} {H : Hp} {σ : L2.St} {ρ : Env} {ω : Sto} {T : List (V × S)} {vs : List V} {ss : List S} (s : StB Φ K B α H σ ρ ω (vs.zip ss ++ T)) (l : vs.length = ss.length) : Paired (RS K α B) vs ss := paired_zip l fun p hp => s.tm p (List.mem_append_left _ hp)
/-- (a, b, ..): of data -/
def dTup (u : TAD) : TD := fun ρ ω q x => u ρ ω (fun ss ω' => match allD ss with | some ds => ds.length ≤ 1000 ∧ q (.d (.tup ds)) ω' | none => False) x
/-- [a, b, ..], a list that will change -/
def dLst (u : TAD) : TD := fun ρ ω q x => u ρ ω (fun ss ω' => ss.length ≤ 1000 ∧ q (.pin ω'.length) (ω' ++ [.lst ss])) x
/-- [a, b, ..], one that stays -/
def dLstD (u : TAD) : TD := fun ρ ω q x => u ρ ω (fun ss ω' => match allD ss with | some ds => ds.length ≤ 1000 ∧ q (.d (.lst ds)) ω' | none => False) x
theorem le_line {n : Nat} (h : n ≤ 1000) : n ≤ sizeLine := Nat.le_of_lt (small1000 h)
section
variable {Φ : Phi} {B : Hp} {α : List Addr} {H : Hp} {σ : L2.St} {ρ : Env} {ω : Sto} {T : List (V × S)}
/-- a new tuple -/
theorem StB.tup (s : StB Φ K B α H σ ρ ω T) {p : Addr} (hp : H p = none) {xs : List V} {ds : List D} (r : Rs K B xs ds) : St Φ K (upd H p (.tup xs)) σ ρ ω ((.ref p, .d (.tup ds)) :: T) := by
  obtain ⟨f, w⟩ := Frame.froze s.fr.bh s.wd hp (.tup xs)
  exact ⟨_, _, (s.step f w).push (.tup upd_same (r.mono f.bb))⟩
theorem StB.lstD (s : StB Φ K B α H σ ρ ω T) {p : Addr} (hp : H p = none) {xs : List V} {ds : List D} (r : Rs K B xs ds) : St Φ K (upd H p (.lst xs)) σ ρ ω ((.ref p, .d (.lst ds)) :: T) := by
  obtain ⟨f, w⟩ := Frame.froze s.fr.bh s.wd hp (.lst xs)
  exact ⟨_, _, (s.step f w).push (.lst upd_same (r.mono f.bb))⟩
theorem StB.lst (s : StB Φ K B α H σ ρ ω T) {p : Addr} (hp : H p = none) {xs : List V} {ss : List S} (r : Paired (RS K α B) xs ss) : St Φ K (upd H p (.lst xs)) σ ρ (ω ++ [.lst ss]) ((.ref p, .pin ω.length) :: T) := by
  obtain ⟨f, w⟩ := Frame.fresh (c := .lst ss) s.fr.bh s.wd hp (.lst xs) ⟨s.fr.bh.free hp, xs, upd_same, paired_mono (fun _ _ h => h.mono (Same.refl _)) r⟩
  exact ⟨_, _, (s.step f w).push ⟨p, by rw [← s.wd.len]; simp, rfl⟩⟩
end
theorem drop_mid {Φ : Phi} {H : Hp} {σ : L2.St} {ρ : Env} {ω : Sto} {T U : List (V × S)} {y : V × S} (s : St Φ K H σ ρ ω (y :: (U ++ T))) : St Φ K H σ ρ ω (y :: T) := s.sub fun p hp => by
  rcases List.mem_cons.mp hp with rfl | hp
  · simp
  · simp [hp]
theorem ref_tup {ta : TA} {u : TAD} (h : RefA K E ta u) : Ref K E (tTup ta) (dTup u) := fun Φ H σ ρ ω T q Q x s hx k hu => h Φ H σ ρ ω T _ _ x s hx (fun ss ω1 vs H1 h l ⟨B, α, s1⟩ => by
  cases e : allD ss with
  | none => simp only [e] at h
  | some ds =>
    simp only [e] at h
    have hl : ss.length = ds.length := by rw [allD_eq e, List.length_map]
    exact ⟨le_line (by omega), fun p hp => k _ _ _ _ h.2 (drop_mid (s1.tup hp (rs_all (St.pair s1 l) e)))⟩) hu
theorem ref_lstD {ta : TA} {u : TAD} (h : RefA K E ta u) : Ref K E (tLst ta) (dLstD u) := fun Φ H σ ρ ω T q Q x s hx k hu => h Φ H σ ρ ω T _ _ x s hx (fun ss ω1 vs H1 h l ⟨B, α, s1⟩ => by
  cases e : allD ss with
  | none => simp only [e] at h
  | some ds =>
    simp only [e] at h
    have hl : ss.length = ds.length := by rw [allD_eq e, List.length_map]
    exact ⟨le_line (by omega), fun p hp => k _ _ _ _ h.2 (drop_mid (s1.lstD hp (rs_all (St.pair s1 l) e)))⟩) hu
theorem ref_lst {ta : TA} {u : TAD} (h : RefA K E ta u) : Ref K E (tLst ta) (dLst u) := fun Φ H σ ρ ω T q Q x s hx k hu => h Φ H σ ρ ω T _ _ x s hx (fun ss ω1 vs H1 h l ⟨B, α, s1⟩ =>
  ⟨le_line (by omega), fun p hp => k _ _ _ _ h.2 (drop_mid (s1.lst hp (St.pair s1 l)))⟩) hu
theorem y_tup {es : List Expr} {u : TAD} {x1} {pos : Pos} (h : PAD X K E es ht u) : PD X K E (.Tuple es x1 pos) (tTup ht) (dTup u) := ⟨pe_tup h.p, ref_tup h.r⟩
theorem y_lst {es : List Expr} {u : TAD} {pos : Pos} (h : PAD X K E es ht u) : PD X K E (.List es pos) (tLst ht) (dLst u) := ⟨pe_lst h.p, ref_lst h.r⟩
theorem y_lstD {es : List Expr} {u : TAD} {pos : Pos} (h : PAD X K E es ht u) : PD X K E (.List es pos) (tLst ht) (dLstD u) := ⟨pe_lst h.p, ref_lstD h.r⟩
/-! ### operations by values -/
/-- what r does of two values, told by data -/
def RefO (K : PySem.W.Frag) (r : R2) (f : S → S → Sto → (S → Sto → Prop) → Prop) : Prop := ∀ (Φ : Phi) (H : Hp) (σ : L2.St) (ρ : Env) (ω : Sto) (T : List (V × S)) (v1 v2 : V) (s1 s2 : S) (q : S → Sto → Prop) (Q : VK), St Φ K H σ ρ ω T → (v1, s1) ∈ T → (v2, s2) ∈ T →
  (∀ s ω' v H', q s ω' → St Φ K H' σ ρ ω' ((v, s) :: T) → Q v H') → f s1 s2 ω q → r v1 v2 H Q
def dOp (f : S → S → Sto → (S → Sto → Prop) → Prop) (t u : TD) : TD := fun ρ ω q x => t ρ ω (fun s1 ω1 => u ρ ω1 (fun s2 ω2 => f s1 s2 ω2 q) x) x
theorem ref_op {r : R2} {f : S → S → Sto → (S → Sto → Prop) → Prop} {ta tb : TE} {t u : TD} (ho : RefO K r f) (h1 : Ref K E ta t) (h2 : Ref K E tb u) : Ref K E (tOp r ta tb) (dOp f t u) := fun Φ H σ ρ ω T q Q x s hx k h =>
  h1 Φ H σ ρ ω T _ _ x s hx (fun s1 ω1 v1 H1 h s' => h2 Φ H1 σ ρ ω1 _ _ _ x s' hx (fun s2 ω2 v2 H2 h s'' => ho Φ H2 σ ρ ω2 _ v1 v2 s1 s2 q Q s'' (by simp) (by simp) (fun s ω' v H' hq hs => k s ω' v H' hq (hs.sub fun p hp => by
    rcases List.mem_cons.mp hp with rfl | hp
    · simp
    · simp [hp])) h) h) h
theorem RefO.or {r r' : R2} {f f' : S → S → Sto → (S → Sto → Prop) → Prop} (h : RefO K r f) (h' : RefO K r' f') : RefO K (fun x y H Q => r x y H Q ∨ r' x y H Q) (fun s1 s2 ω q => f s1 s2 ω q ∨ f' s1 s2 ω q) := fun Φ H σ ρ ω T v1 v2 s1 s2 q Q s m1 m2 k h2 => by
  rcases h2 with h2 | h2
  · exact .inl (h Φ H σ ρ ω T v1 v2 s1 s2 q Q s m1 m2 k h2)
  · exact .inr (h' Φ H σ ρ ω T v1 v2 s1 s2 q Q s m1 m2 k h2)
theorem RefO.imp {r : R2} {f f' : S → S → Sto → (S → Sto → Prop) → Prop} (h : RefO K r f) (g : ∀ s1 s2 ω q, f' s1 s2 ω q → f s1 s2 ω q) : RefO K r f' := fun Φ H σ ρ ω T v1 v2 s1 s2 q Q s m1 m2 k h2 => h Φ H σ ρ ω T v1 v2 s1 s2 q Q s m1 m2 k (g _ _ _ _ h2)
/-- the value of data -/
theorem St.val {Φ : Phi} {H : Hp} {σ : L2.St} {ρ : Env} {ω : Sto} {T : List (V × S)} (s : St Φ K H σ ρ ω T) {v : V} {d : D} (m : (v, S.d d) ∈ T) : ∃ B α, StB Φ K B α H σ ρ ω T ∧ R K B v d := let ⟨B, α, x⟩ := s; ⟨B, α, x, x.tm _ m⟩
end
end Y

set_option Elab.async false
set_option linter.all false
set_option maxRecDepth 100000
set_option maxHeartbeats 2000000
namespace Y
open PySem PySem.Spec PyProof.Rows L2
variable {w : World} [Tb w]
theorem lineB {n : Nat} (h : n ≤ 1000000) : n ≤ sizeLine := Nat.le_trans h (by rw [sizeLine_eq]; decide)
abbrev FO := S → S → Sto → (S → Sto → Prop) → Prop
section
variable {K : PySem.W.Frag} {X : Cx} {E : XK}
variable {Φ : Phi} {H : Hp} {σ : L2.St} {ρ : Env} {ω : Sto} {T : List (V × S)}
theorem r_int {B : Hp} {v : V} {i : Int} (h : R K B v (.int i)) : v = .int i := by cases h; rfl
theorem r_str {B : Hp} {v : V} {i : Str} (h : R K B v (.str i)) : v = .str i := by cases h; rfl
theorem r_bl {B : Hp} {v : V} {i : Bool} (h : R K B v (.bl i)) : v = .bl i := by cases h; rfl
theorem r_non {B : Hp} {v : V} (h : R K B v .non) : v = .non := by cases h; rfl
theorem r_fn {B : Hp} {v : V} {a : Addr} (h : R K B v (.fn a)) : v = .ref a := by cases h; rfl
theorem r_tup {B : Hp} {v : V} {ds : List D} (h : R K B v (.tup ds)) : ∃ a xs, v = .ref a ∧ B a = some (.tup xs) ∧ Rs K B xs ds := by cases h with | tup h t => exact ⟨_, _, rfl, h, t⟩
theorem r_ktup {B : Hp} {v : V} {ds : List D} (h : R K B v (.ktup ds)) : ∃ a xs, v = .ref a ∧ SqT K B a xs ∧ Rs K B xs ds := by cases h with | ktup h t => exact ⟨_, _, rfl, h, t⟩
theorem r_klst {B : Hp} {v : V} {ds : List D} (h : R K B v (.klst ds)) : ∃ a xs, v = .ref a ∧ SqL K B a xs ∧ Rs K B xs ds := by cases h with | klst h t => exact ⟨_, _, rfl, h, t⟩
theorem r_dicK {B : Hp} {v : V} {ks : List Key} {ds : List D} (h : R K B v (.dicK ks ds)) : ∃ a ys, v = .ref a ∧ B a = some (.dK ys) ∧ ys.map (·.1) = ks ∧ Rs K B (ys.map (·.2)) ds := by cases h with | dicK h t => exact ⟨_, _, rfl, h, rfl, t⟩
theorem r_dicT {B : Hp} {v : V} {ks : List (List Key)} {ds : List D} (h : R K B v (.dicT ks ds)) : ∃ a ys, v = .ref a ∧ B a = some (.dT ys) ∧ ys.map (·.1) = ks ∧ Rs K B (ys.map (·.2)) ds := by cases h with | dicT h t => exact ⟨_, _, rfl, h, rfl, t⟩
theorem r_dicP {B : Hp} {v : V} {ks : List XP.PKey} {ds : List D} (h : R K B v (.dicP ks ds)) : ∃ a ys, v = .ref a ∧ B a = some (XP.DicP w a ys) ∧ XP.PKeys B ys ∧ ys.map (·.1) = ks ∧ Rs K B (ys.map (·.2.2)) ds := by cases h with | dicP h k t => exact ⟨_, _, rfl, h, k, rfl, t⟩
theorem r_clo {B : Hp} {v : V} {f c : Addr} {o u : HO} {ws : List V} {wd : List D} (h : R K B v (.clo f o c u ws wd)) : v = .ref f ∧ B f = some o ∧ B c = some u ∧ Rs K B ws wd := by cases h with | clo h1 h2 t => exact ⟨rfl, h1, h2, t⟩
theorem r_lst {B : Hp} {v : V} {ds : List D} (h : R K B v (.lst ds)) : ∃ a xs, v = .ref a ∧ B a = some (.lst xs) ∧ Rs K B xs ds := by cases h with | lst h t => exact ⟨_, _, rfl, h, t⟩
/-! ### + - * // % and the bits -/
def intO (g : Int → Int → S) (C : Int → Int → Prop) : FO := fun s1 s2 ω q => match s1, s2 with
  | .d (.int i), .d (.int j) => C i j ∧ q (g i j) ω
  | _, _ => False
theorem refO_int {C : Int → Int → Prop} {g : Int → Int → Int} : RefO K (rI C fun i j => .int (g i j)) (intO (fun i j => .d (.int (g i j))) C) := fun Φ H σ ρ ω T v1 v2 s1 s2 q Q s m1 m2 k h => by
  unfold intO at h
  split at h
  · obtain ⟨B, α, _, r1⟩ := s.val m1
    obtain ⟨_, _, _, r2⟩ := s.val m2
    exact ⟨_, _, r_int r1, r_int r2, h.1, k _ _ _ _ h.2 (s.push fun _ => .int _)⟩
  · exact h.elim
theorem refO_int0 {g : Int → Int → Int} : RefO K (rI0 fun i j => .int (g i j)) (intO (fun i j => .d (.int (g i j))) fun _ _ => True) := fun Φ H σ ρ ω T v1 v2 s1 s2 q Q s m1 m2 k h => by
  obtain ⟨i, j, e1, e2, _, z⟩ := refO_int (C := fun _ _ => True) Φ H σ ρ ω T v1 v2 s1 s2 q Q s m1 m2 k h
  exact ⟨i, j, e1, e2, z⟩
theorem refO_cmp {g : Int → Int → Bool} : RefO K (rI0 fun i j => .bl (g i j)) (intO (fun i j => .d (.bl (g i j))) fun _ _ => True) := fun Φ H σ ρ ω T v1 v2 s1 s2 q Q s m1 m2 k h => by
  unfold intO at h
  split at h
  · obtain ⟨B, α, _, r1⟩ := s.val m1
    obtain ⟨_, _, _, r2⟩ := s.val m2
    exact ⟨_, _, r_int r1, r_int r2, k _ _ _ _ h.2 (s.push fun _ => .bl _)⟩
  · exact h.elim
def strO (g : Str → Str → Bool) : FO := fun s1 s2 ω q => match s1, s2 with
  | .d (.str i), .d (.str j) => q (.d (.bl (g i j))) ω
  | _, _ => False
theorem refO_strcmp {g : Str → Str → Bool} : RefO K (fun x y H Q => ∃ i j, x = .str i ∧ y = .str j ∧ Q (.bl (g i j)) H) (strO g) := fun Φ H σ ρ ω T v1 v2 s1 s2 q Q s m1 m2 k h => by
  unfold strO at h
  split at h
  · obtain ⟨B, α, _, r1⟩ := s.val m1
    obtain ⟨_, _, _, r2⟩ := s.val m2
    exact ⟨_, _, r_str r1, r_str r2, k _ _ _ _ h (s.push fun _ => .bl _)⟩
  · exact h.elim
def addD : FO := fun s1 s2 ω q => match s1, s2 with
  | .d (.int i), .d (.int j) => q (.d (.int (i + j))) ω
  | .d (.str x), .d (.str y) => x.length + y.length ≤ 1000000 ∧ q (.d (.str (x ++ y))) ω
  | .d (.tup a), .d (.tup b) => a.length + b.length ≤ 1000000 ∧ q (.d (.tup (a ++ b))) ω
  | .d (.lst a), .d (.lst b) => a.length + b.length ≤ 1000000 ∧ q (.d (.lst (a ++ b))) ω
  | _, _ => False
def rAddY (K : PySem.W.Frag) : R2 := fun x y H Q => rI0 (fun i j => .int (i + j)) x y H Q ∨ (∃ i j, x = .str i ∧ y = .str j ∧ i.length + j.length ≤ sizeLine ∧ Q (.str (i ++ j)) H) ∨ rCatA K x y H Q ∨ rCat x y H Q
theorem op_addY : OpR X (binaryOp .Add) (rAddY X.K) := op_add.or (op_add_str.or (op_catA.or op_cat))
theorem St.sub1 {Φ : Phi} {H : Hp} {σ : L2.St} {ρ : Env} {ω : Sto} {T : List (V × S)} {p : V × S} (s : St Φ K H σ ρ ω T) (h : p ∈ T) : St Φ K H σ ρ ω (p :: T) := s.sub fun z hz => by
  rcases List.mem_cons.mp hz with rfl | hz
  · exact h
  · exact hz
theorem StB.st (s : StB Φ K B α H σ ρ ω T) : St Φ K H σ ρ ω T := ⟨_, _, s⟩
theorem refO_add : RefO K (rAddY K) addD := fun Φ H σ ρ ω T v1 v2 s1 s2 q Q s m1 m2 k h => by
  unfold addD at h
  obtain ⟨B, α, sb⟩ := s
  split at h
  · exact .inl ⟨_, _, r_int (sb.tm _ m1), r_int (sb.tm _ m2), k _ _ _ _ h (sb.st.push fun _ => .int _)⟩
  · exact .inr (.inl ⟨_, _, r_str (sb.tm _ m1), r_str (sb.tm _ m2), lineB h.1, k _ _ _ _ h.2 (sb.st.push fun _ => .str _)⟩)
  · obtain ⟨a, xs, rfl, ha, ra⟩ := r_tup (sb.tm _ m1)
    obtain ⟨b, ys, rfl, hb, rb⟩ := r_tup (sb.tm _ m2)
    have la := ra.len
    have lb := rb.len
    refine .inr (.inr (.inl ⟨a, b, xs, ys, rfl, rfl, SqT.of (sb.fr.bh _ _ ha), SqT.of (sb.fr.bh _ _ hb), lineB (by omega), fun e => ?_, fun _ e => ?_, fun _ _ p hp => k _ _ _ _ h.2 (sb.tup hp (ra.append rb))⟩))
    · subst e
      cases ra
      exact k _ _ _ _ h.2 (sb.st.sub1 m2)
    · subst e
      cases rb
      rw [List.append_nil] at h
      exact k _ _ _ _ h.2 (sb.st.sub1 m1)
  · obtain ⟨a, xs, rfl, ha, ra⟩ := r_lst (sb.tm _ m1)
    obtain ⟨b, ys, rfl, hb, rb⟩ := r_lst (sb.tm _ m2)
    have la := ra.len
    have lb := rb.len
    exact .inr (.inr (.inr ⟨a, b, xs, ys, rfl, rfl, sb.fr.bh _ _ ha, sb.fr.bh _ _ hb, lineB (by omega), fun p hp => k _ _ _ _ h.2 (sb.lstD hp (ra.append rb))⟩))
  · exact h.elim
section
variable {a b : Expr} {t u : TD} {pos : Pos}
theorem y_op {op : Operator} {r : R2} {f : FO} (ho : OpR X (binaryOp op) r) (hf : RefO K r f) (h1 : PD X K E a h1t t) (h2 : PD X K E b h2t u) : PD X K E (.BinOp a op b pos) (tOp r h1t h2t) (dOp f t u) :=  ⟨pe_op ho h1.p h2.p, ref_op hf h1.r h2.r⟩
theorem y_add (h1 : PD X K E a h1t t) (h2 : PD X K E b h2t u) (hK : X.K = K := by rfl) : PD X K E (.BinOp a .Add b pos) (tOp (rAddY K) h1t h2t) (dOp addD t u) := by
  subst hK
  exact y_op op_addY refO_add h1 h2
abbrev subD : FO := intO (fun i j => .d (.int (i - j))) fun _ _ => True
abbrev mulD : FO := intO (fun i j => .d (.int (i * j))) CMul
abbrev modD : FO := intO (fun i j => .d (.int (i.fmod j))) fun _ j => j ≠ 0
abbrev fdivD : FO := intO (fun i j => .d (.int (i.fdiv j))) CDivN
theorem y_sub (h1 : PD X K E a h1t t) (h2 : PD X K E b h2t u) : PD X K E (.BinOp a .Sub b pos) (tOp (rI0 fun i j => .int (i - j)) h1t h2t) (dOp subD t u) := y_op op_sub refO_int0 h1 h2
theorem y_mul (h1 : PD X K E a h1t t) (h2 : PD X K E b h2t u) : PD X K E (.BinOp a .Mult b pos) (tOp (rI CMul fun i j => .int (i * j)) h1t h2t) (dOp mulD t u) := y_op op_mul refO_int h1 h2
theorem y_mod (h1 : PD X K E a h1t t) (h2 : PD X K E b h2t u) : PD X K E (.BinOp a .Mod b pos) (tOp (rI (fun _ j => j ≠ 0) fun i j => .int (i.fmod j)) h1t h2t) (dOp modD t u) := y_op op_modN refO_int h1 h2
theorem y_fdiv (h1 : PD X K E a h1t t) (h2 : PD X K E b h2t u) : PD X K E (.BinOp a .FloorDiv b pos) (tOp (rI CDivN fun i j => .int (i.fdiv j)) h1t h2t) (dOp fdivD t u) := y_op op_fdivN refO_int h1 h2
abbrev shlD : FO := intO (fun i j => .d (.int (i * 2 ^ j.toNat))) CPow
abbrev shrD : FO := intO (fun i j => .d (.int (i / 2 ^ j.toNat))) fun _ j => 0 ≤ j
abbrev bandD : FO := intO (fun i j => .d (.int (Builtin.bitAnd i j))) fun _ _ => True
abbrev borD : FO := intO (fun i j => .d (.int (Builtin.bitOr i j))) fun _ _ => True
theorem y_shl (h1 : PD X K E a h1t t) (h2 : PD X K E b h2t u) : PD X K E (.BinOp a .LShift b pos) (tOp (rI CPow fun i j => .int (i * 2 ^ j.toNat)) h1t h2t) (dOp shlD t u) := y_op op_shl refO_int h1 h2
theorem y_shr (h1 : PD X K E a h1t t) (h2 : PD X K E b h2t u) : PD X K E (.BinOp a .RShift b pos) (tOp (rI (fun _ j => 0 ≤ j) fun i j => .int (i / 2 ^ j.toNat)) h1t h2t) (dOp shrD t u) := y_op op_shr refO_int h1 h2
theorem y_band (h1 : PD X K E a h1t t) (h2 : PD X K E b h2t u) : PD X K E (.BinOp a .BitAnd b pos) (tOp (rI0 fun i j => .int (Builtin.bitAnd i j)) h1t h2t) (dOp bandD t u) := y_op op_and refO_int0 h1 h2
theorem y_bor (h1 : PD X K E a h1t t) (h2 : PD X K E b h2t u) : PD X K E (.BinOp a .BitOr b pos) (tOp (rI0 fun i j => .int (Builtin.bitOr i j)) h1t h2t) (dOp borD t u) := y_op op_or refO_int0 h1 h2
end
/-! ### plain data as the library's -/
mutual
def toP : D → PyData
  | .non => .none
  | .bl b => .bool b
  | .int i => .int i
  | .str x => .str x
  | .fn _ => .none
  | .tup ds => .tuple (toPs ds)
  | .ktup ds => .tuple (toPs ds)
  | .lst ds => .list (toPs ds)
  | .klst ds => .list (toPs ds)
  | .dicK _ _ => .none
  | .dicT _ _ => .none
  | .dicP _ _ => .none
  | .clo _ _ _ _ _ _ => .none
def toPs : List D → List PyData
  | [] => []
  | d :: ds => toP d :: toPs ds
end
mutual
def pureD : D → Bool
  | .fn _ => false
  | .tup ds => pureDs ds
  | .ktup ds => pureDs ds
  | .lst ds => pureDs ds
  | .klst ds => pureDs ds
  | .dicK _ _ => false
  | .dicT _ _ => false
  | .dicP _ _ => false
  | .clo _ _ _ _ _ _ => false
  | .non => true
  | .bl _ => true
  | .int _ => true
  | .str _ => true
def pureDs : List D → Bool
  | [] => true
  | d :: ds => pureD d && pureDs ds
end
mutual
theorem r_dp {B H : Hp} (g : Same B H) : ∀ {d : D} {v : V}, pureD d = true → R K B v d → Dp K H v (toP d)
  | .non, _, _, h => by rw [r_non h]; exact .non
  | .bl b, _, _, h => by rw [r_bl h]; exact .bl b
  | .int i, _, _, h => by rw [r_int h]; exact .int i
  | .str x, _, _, h => by rw [r_str h]; exact .str x
  | .fn a, _, p, _ => by simp [pureD] at p
  | .tup ds, _, p, h => by
    obtain ⟨a, xs, rfl, ha, ra⟩ := r_tup h
    exact .tup (SqT.of (g _ _ ha)) (rs_dp g (by simpa [pureD] using p) ra)
  | .ktup ds, _, p, h => by
    obtain ⟨a, xs, rfl, ha, ra⟩ := r_ktup h
    exact .tup (sameT g ha) (rs_dp g (by simpa [pureD] using p) ra)
  | .lst ds, _, p, h => by
    obtain ⟨a, xs, rfl, ha, ra⟩ := r_lst h
    exact .lst (SqL.of (g _ _ ha)) (rs_dp g (by simpa [pureD] using p) ra)
  | .klst ds, _, p, h => by
    obtain ⟨a, xs, rfl, ha, ra⟩ := r_klst h
    exact .lst (g.seq ha) (rs_dp g (by simpa [pureD] using p) ra)
  | .dicK _ _, _, p, _ => by simp [pureD] at p
  | .dicT _ _, _, p, _ => by simp [pureD] at p
  | .dicP _ _, _, p, _ => by simp [pureD] at p
  | .clo _ _ _ _ _ _, _, p, _ => by simp [pureD] at p
theorem rs_dp {B H : Hp} (g : Same B H) : ∀ {ds : List D} {vs : List V}, pureDs ds = true → Rs K B vs ds → DpAll K H vs (toPs ds)
  | [], _, _, h => by cases h; exact .nil
  | d :: ds, _, p, h => by
    simp only [pureDs, Bool.and_eq_true] at p
    cases h with | cons h t => exact .cons (r_dp g p.1 h) (rs_dp g p.2 t)
end
/-- may be compared -/
def okD (d : D) : Prop := pureD d = true ∧ SeqAt.shaped (toP d) = true
/-- two scalars -/
def scEq : D → D → Option Bool
  | .int i, .int j => some (decide (i = j))
  | .str i, .str j => some (decide (i = j))
  | .bl i, .bl j => some (decide (i = j))
  | .non, .non => some true
  | .int _, .str _ => some false
  | .str _, .int _ => some false
  | .non, .int _ => some false
  | .int _, .non => some false
  | .non, .str _ => some false
  | .str _, .non => some false
  | .non, .bl _ => some false
  | .bl _, .non => some false
  | .bl _, .str _ => some false
  | .str _, .bl _ => some false
  | _, _ => none
theorem scEq_ok {B : Hp} {v w : V} {a b : D} {k : Bool} (h : scEq a b = some k) (r1 : R K B v a) (r2 : R K B w b) : scal v w = true ∧ decide (v = w) = k := by
  unfold scEq at h
  split at h <;> cases h <;> cases r1 <;> cases r2 <;> refine ⟨rfl, ?_⟩ <;> simp
def eqD (neg : Bool) : FO := fun s1 s2 ω q => match s1, s2 with
  | .d a, .d b => match scEq a b with
    | some k => q (.d (.bl (neg ^^ k))) ω
    | none => (okD a ∧ okD b) ∧ q (.d (.bl (neg ^^ PyData.eqv (toP a) (toP b)))) ω
  | _, _ => False
def rEqY (K : PySem.W.Frag) : R2 := fun x y H Q => rEq x y H Q ∨ rEqD K x y H Q
def rNeY (K : PySem.W.Frag) : R2 := fun x y H Q => rNe x y H Q ∨ rNeD K x y H Q
theorem refO_eq : RefO K (rEqY K) (eqD false) := fun Φ H σ ρ ω T v1 v2 s1 s2 q Q s m1 m2 k h => by
  unfold eqD at h
  obtain ⟨B, α, sb⟩ := s
  split at h
  · rename_i a b
    cases e : scEq a b with
    | some c =>
      simp only [e] at h
      obtain ⟨x1, x2⟩ := scEq_ok e (sb.tm _ m1) (sb.tm _ m2)
      refine .inl ⟨x1, ?_⟩
      show Q (.bl (decide (v1 = v2))) H
      rw [x2]
      exact k _ _ _ _ h (sb.st.push fun _ => by simpa using R.bl c)
    | none =>
      simp only [e] at h
      refine .inr ⟨_, _, r_dp sb.fr.bh h.1.1.1 (sb.tm _ m1), r_dp sb.fr.bh h.1.2.1 (sb.tm _ m2), h.1.1.2, h.1.2.2, ?_⟩
      exact k _ _ _ _ h.2 (sb.st.push fun _ => by simpa using R.bl _)
  · exact h.elim
theorem refO_ne : RefO K (rNeY K) (eqD true) := fun Φ H σ ρ ω T v1 v2 s1 s2 q Q s m1 m2 k h => by
  unfold eqD at h
  obtain ⟨B, α, sb⟩ := s
  split at h
  · rename_i a b
    cases e : scEq a b with
    | some c =>
      simp only [e] at h
      obtain ⟨x1, x2⟩ := scEq_ok e (sb.tm _ m1) (sb.tm _ m2)
      refine .inl ⟨x1, ?_⟩
      show Q (.bl (!decide (v1 = v2))) H
      rw [x2]
      exact k _ _ _ _ h (sb.st.push fun _ => by simpa using R.bl (!c))
    | none =>
      simp only [e] at h
      refine .inr ⟨_, _, r_dp sb.fr.bh h.1.1.1 (sb.tm _ m1), r_dp sb.fr.bh h.1.2.1 (sb.tm _ m2), h.1.1.2, h.1.2.2, ?_⟩
      exact k _ _ _ _ h.2 (sb.st.push fun _ => by simpa using R.bl _)
  · exact h.elim
/-! ### order, in, is None -/
def ordD (gi : Int → Int → Bool) (gs : Str → Str → Bool) : FO := fun s1 s2 ω q => match s1, s2 with
  | .d (.int i), .d (.int j) => q (.d (.bl (gi i j))) ω
  | .d (.str i), .d (.str j) => q (.d (.bl (gs i j))) ω
  | _, _ => False
theorem refO_ord {gi : Int → Int → Bool} {gs : Str → Str → Bool} : RefO K (fun x y H Q => rI0 (fun i j => .bl (gi i j)) x y H Q ∨ ∃ i j, x = .str i ∧ y = .str j ∧ Q (.bl (gs i j)) H) (ordD gi gs) := fun Φ H σ ρ ω T v1 v2 s1 s2 q Q s m1 m2 k h => by
  unfold ordD at h
  obtain ⟨B, α, sb⟩ := s
  split at h
  · exact .inl ⟨_, _, r_int (sb.tm _ m1), r_int (sb.tm _ m2), k _ _ _ _ h (sb.st.push fun _ => .bl _)⟩
  · exact .inr ⟨_, _, r_str (sb.tm _ m1), r_str (sb.tm _ m2), k _ _ _ _ h (sb.st.push fun _ => .bl _)⟩
  · exact h.elim
def ltS (x y : Str) : Bool := decide (x.cps.toList < y.cps.toList)
abbrev ltD : FO := ordD (fun i j => decide (i < j)) ltS
abbrev leD : FO := ordD (fun i j => decide (i ≤ j)) (fun x y => !ltS y x)
abbrev gtD : FO := ordD (fun i j => decide (j < i)) (fun x y => ltS y x)
abbrev geD : FO := ordD (fun i j => decide (j ≤ i)) (fun x y => !ltS x y)
def isNon : D → Bool
  | .non => true
  | _ => false
def isND (neg : Bool) : FO := fun s1 s2 ω q => match s1, s2 with
  | .d a, .d .non => q (.d (.bl (neg ^^ isNon a))) ω
  | .pin _, .d .non => q (.d (.bl neg)) ω
  | _, _ => False
theorem non_iff {B : Hp} {v : V} {a : D} (r : R K B v a) : decide (v = .non) = isNon a := by cases r <;> simp [isNon]
theorem refO_isN : RefO K (fun x y H Q => y = .non ∧ Q (.bl (decide (x = .non))) H) (isND false) := fun Φ H σ ρ ω T v1 v2 s1 s2 q Q s m1 m2 k h => by
  unfold isND at h
  obtain ⟨B, α, sb⟩ := s
  split at h
  · refine ⟨r_non (sb.tm _ m2), ?_⟩
    rw [non_iff (sb.tm _ m1)]
    exact k _ _ _ _ h (sb.st.push fun _ => by simpa using R.bl _)
  · obtain ⟨a, _, e⟩ := sb.tm _ m1
    have e : v1 = .ref a := e
    subst e
    exact ⟨r_non (sb.tm _ m2), k _ _ _ _ h (sb.st.push fun _ => by simpa using R.bl _)⟩
  · exact h.elim
theorem refO_notN : RefO K (fun x y H Q => y = .non ∧ Q (.bl (!decide (x = .non))) H) (isND true) := fun Φ H σ ρ ω T v1 v2 s1 s2 q Q s m1 m2 k h => by
  unfold isND at h
  obtain ⟨B, α, sb⟩ := s
  split at h
  · refine ⟨r_non (sb.tm _ m2), ?_⟩
    rw [non_iff (sb.tm _ m1)]
    exact k _ _ _ _ h (sb.st.push fun _ => by simpa using R.bl _)
  · obtain ⟨a, _, e⟩ := sb.tm _ m1
    have e : v1 = .ref a := e
    subst e
    exact ⟨r_non (sb.tm _ m2), k _ _ _ _ h (sb.st.push fun _ => by simpa using R.bl _)⟩
  · exact h.elim
end
end Y

set_option Elab.async false
set_option linter.all false
set_option maxRecDepth 100000
set_option maxHeartbeats 2000000
namespace Y
open PySem PySem.Spec PyProof.Rows L2
variable {w : World} [Tb w]
section
variable {K : PySem.W.Frag} {X : Cx} {E : XK}
variable {Φ : Phi} {B : Hp} {α : List Addr} {H : Hp} {σ : L2.St} {ρ : Env} {ω : Sto} {T : List (V × S)}
/-! ### what a dict holds -/
def valS {κ : Type} [DecidableEq κ] (kvs : List (κ × S)) (k : κ) : Option S := (kvs.find? fun kv => decide (kv.1 = k)).map (·.2)
def putS {κ : Type} [DecidableEq κ] (kvs : List (κ × S)) (k : κ) (s : S) : List (κ × S) := if kvs.any (fun kv => decide (kv.1 = k)) then kvs.map (fun kv => if kv.1 = k then (kv.1, s) else kv) else kvs ++ [(k, s)]
theorem RK.val {κ : Type} [DecidableEq κ] {k : κ} : ∀ {ys : List (κ × V)} {kvs : List (κ × S)}, RK K α B ys kvs → match valS kvs k with | some s => ∃ v, valV ys k = some v ∧ RS K α B v s | none => valV ys k = none
  | _, _, .nil => rfl
  | p :: ys, q :: kvs, .cons h t => by
    have ih := RK.val (k := k) t
    unfold valS valV at ih ⊢
    rw [List.find?_cons, List.find?_cons, h.1]
    by_cases e : q.1 = k
    · simp only [e, decide_true, Option.map_some]
      exact ⟨p.2, rfl, h.2⟩
    · simp only [e, decide_false]
      exact ih
theorem RK.some {κ : Type} [DecidableEq κ] {k : κ} {ys : List (κ × V)} {kvs : List (κ × S)} {s : S} (r : RK K α B ys kvs) (e : valS kvs k = some s) : ∃ v, valV ys k = some v ∧ RS K α B v s := by
  have := RK.val (k := k) r
  rw [e] at this
  exact this
theorem RK.isSome {κ : Type} [DecidableEq κ] {k : κ} {ys : List (κ × V)} {kvs : List (κ × S)} (r : RK K α B ys kvs) : (valV ys k).isSome = (valS kvs k).isSome := by
  have := RK.val (k := k) r
  cases e : valS kvs k with
  | none => rw [e] at this; rw [this]; rfl
  | some s => rw [e] at this; obtain ⟨v, e2, _⟩ := this; rw [e2]; rfl
theorem RK.len {κ : Type} {ys : List (κ × V)} {kvs : List (κ × S)} (r : RK K α B ys kvs) : ys.length = kvs.length := Paired.length r
theorem RK.any {κ : Type} [DecidableEq κ] {k : κ} : ∀ {ys : List (κ × V)} {kvs : List (κ × S)}, RK K α B ys kvs → ys.any (fun kv => decide (kv.1 = k)) = kvs.any (fun kv => decide (kv.1 = k))
  | _, _, .nil => rfl
  | p :: ys, q :: kvs, .cons h t => by rw [List.any_cons, List.any_cons, h.1, RK.any t]
theorem paired_app {α β : Type} {F : α → β → Prop} : ∀ {l l' : List α} {m m' : List β}, Paired F l m → Paired F l' m' → Paired F (l ++ l') (m ++ m')
  | _, _, _, _, .nil, h => h
  | _, _, _, _, .cons h t, q => .cons h (paired_app t q)
theorem paired_map {α β α' β' : Type} {F : α → β → Prop} {G : α' → β' → Prop} {f : α → α'} {g : β → β'} (h : ∀ a b, F a b → G (f a) (g b)) : ∀ {l : List α} {m : List β}, Paired F l m → Paired G (l.map f) (m.map g)
  | _, _, .nil => .nil
  | _, _, .cons h1 t => .cons (h _ _ h1) (paired_map h t)
theorem RK.put {κ : Type} [DecidableEq κ] {k : κ} {v : V} {s : S} {ys : List (κ × V)} {kvs : List (κ × S)} (r : RK K α B ys kvs) (h : RS K α B v s) : RK K α B (putK ys k v) (putS kvs k s) := by
  unfold putK putS
  rw [r.any]
  split
  · refine paired_map (fun p q hp => ?_) r
    rw [hp.1]
    by_cases e : q.1 = k
    · rw [if_pos e, if_pos e]
      exact ⟨rfl, h⟩
    · rw [if_neg e, if_neg e]
      exact hp
  · exact paired_app r (.cons ⟨rfl, h⟩ .nil)
def keyOf : D → Option Key
  | .int i => some (.inl i)
  | .str x => some (.inr x)
  | _ => none
def keysOf : List D → Option (List Key)
  | [] => some []
  | d :: ds => match keyOf d, keysOf ds with
    | some k, some ks => some (k :: ks)
    | _, _ => none
theorem r_key {v : V} {d : D} {k : Key} (h : keyOf d = some k) (r : R K B v d) : v = kV k := by
  unfold keyOf at h
  split at h <;> cases h <;> cases r <;> rfl
theorem rs_keys : ∀ {ds : List D} {vs : List V} {ks : List Key}, keysOf ds = some ks → Rs K B vs ds → vs = ks.map kV
  | [], _, _, h, r => by cases h; cases r; rfl
  | d :: ds, _, _, h, r => by
    unfold keysOf at h
    split at h
    · rename_i k ks e1 e2
      cases h
      cases r with | cons r t => rw [List.map_cons, r_key e1 r, rs_keys e2 t]
    · cases h
/-- what a dict holds at a key -/
def pkeyOf : D → Option XP.PKey
  | .tup [k, .tup ds] => match keyOf k, keysOf ds with
    | some k, some ks => some (k, ks)
    | _, _ => none
  | _ => none
def lookC (c : Cell) (d : D) : Option (Option S) := match c with
  | .dK kvs => (keyOf d).map fun k => valS kvs k
  | .dT kvs => match d with
    | .tup ds => (keysOf ds).map fun k => valS kvs k
    | _ => none
  | .dP kvs => (pkeyOf d).map fun k => valS kvs k
  | _ => none
/-- a dict that stays, as a cell -/
def dicC : D → Cell
  | .dicK ks ds => .dK (ks.zip (ds.map S.d))
  | .dicT ks ds => .dT (ks.zip (ds.map S.d))
  | .dicP ks ds => .dP (ks.zip (ds.map S.d))
  | _ => .dead
def DicAt (K : PySem.W.Frag) (α : List Addr) (B H : Hp) (a : Addr) : Cell → Prop
  | .dK kvs => ∃ ys, H a = some (.dK ys) ∧ RK K α B ys kvs
  | .dT kvs => ∃ ys, H a = some (.dT ys) ∧ RK K α B ys kvs
  | .dP kvs => ∃ ys, H a = some (XP.DicP w a ys) ∧ XP.PKeys B ys ∧ Paired (fun p q => p.1 = q.1 ∧ RS K α B p.2.2 q.2) ys kvs
  | _ => False
theorem r_pkey {B : Hp} {v : V} {d : D} {k : XP.PKey} (h : pkeyOf d = some k) (r : R K B v d) : ∃ b, v = .ref b ∧ XP.PAt B b k := by
  unfold pkeyOf at h
  split at h
  · rename_i k0 ds
    split at h
    · rename_i k1 ks e1 e2
      cases h
      obtain ⟨a, xs, rfl, ha, ra⟩ := r_tup r
      cases ra with
      | cons r1 t =>
        cases t with
        | cons r2 t2 =>
          cases t2
          obtain ⟨b, ys, rfl, hb, rb⟩ := r_tup r2
          rw [rs_keys e2 rb] at hb
          rw [r_key e1 r1] at ha
          exact ⟨a, rfl, b, ha, hb⟩
    · cases h
  · cases h
theorem zip_d {κ : Type} {B : Hp} {α : List Addr} : ∀ {ys : List (κ × V)} {ds : List D}, Rs K B (ys.map (·.2)) ds → RK K α B ys ((ys.map (·.1)).zip (ds.map S.d))
  | [], [], _ => .nil
  | y :: ys, d :: ds, h => by
    cases h with
    | cons r t => exact .cons ⟨rfl, r⟩ (zip_d t)
  | [], _ :: _, h => by cases h
  | _ :: _, [], h => by cases h
theorem zip_dP {B : Hp} {α : List Addr} : ∀ {ys : List (XP.PKey × Addr × V)} {ds : List D}, Rs K B (ys.map (·.2.2)) ds → Paired (fun p q => p.1 = q.1 ∧ RS K α B p.2.2 q.2) ys ((ys.map (·.1)).zip (ds.map S.d))
  | [], [], _ => .nil
  | y :: ys, d :: ds, h => by
    cases h with
    | cons r t => exact .cons ⟨rfl, r⟩ (zip_dP t)
  | [], _ :: _, h => by cases h
  | _ :: _, [], h => by cases h
theorem dic_at {B H : Hp} {α : List Addr} (g : Same B H) {v : V} {d : D} (r : R K B v d) (h : dicC d ≠ .dead) : ∃ a, v = .ref a ∧ DicAt K α B H a (dicC d) := by
  cases r with
  | dicK h1 t => exact ⟨_, rfl, _, g _ _ h1, zip_d t⟩
  | dicT h1 t => exact ⟨_, rfl, _, g _ _ h1, zip_d t⟩
  | dicP h1 k t => exact ⟨_, rfl, _, g _ _ h1, k, zip_dP t⟩
  | _ => exact absurd rfl h
theorem PVS.val {ys : List (XP.PKey × Addr × V)} {kvs : List (XP.PKey × S)} (r : Paired (fun p q => p.1 = q.1 ∧ RS K α B p.2.2 q.2) ys kvs) (k : XP.PKey) : match valS kvs k with | some s => ∃ v, XP.valP ys k = some v ∧ RS K α B v s | none => XP.valP ys k = none := by
  unfold valS XP.valP
  induction r with
  | nil => rfl
  | @cons p q ps qs h t ih =>
    rw [List.find?_cons, List.find?_cons, h.1]
    by_cases e : q.1 = k
    · simp only [e, decide_true, Option.map_some]
      exact ⟨p.2.2, rfl, h.2⟩
    · simp only [e, decide_false]
      exact ih
theorem look_get {a : Addr} {c : Cell} {d : D} {o : Option S} {y : V} (g : Same B H) (hc : DicAt K α B H a c) (r : R K B y d) (h : lookC c d = some o) : ∃ u, XP.DGetY w H a y u ∧ u.isSome = o.isSome ∧ ∀ s, o = some s → ∃ v, u = some v ∧ RS K α B v s := by
  unfold lookC at h
  split at h
  · rename_i kvs
    obtain ⟨ys, e, rk⟩ := hc
    obtain ⟨k, hk, rfl⟩ := Option.map_eq_some_iff.mp h
    rw [r_key hk r]
    exact ⟨_, .inl (DGet.k e), rk.isSome, fun s hs => rk.some hs⟩
  · rename_i kvs
    split at h
    · rename_i ds
      obtain ⟨ys, e, rk⟩ := hc
      obtain ⟨k, hk, rfl⟩ := Option.map_eq_some_iff.mp h
      obtain ⟨b, xs, rfl, hb, rb⟩ := r_tup r
      rw [rs_keys hk rb] at hb
      exact ⟨_, .inl (DGet.t e (g _ _ hb)), rk.isSome, fun s hs => rk.some hs⟩
    · cases h
  · rename_i kvs
    obtain ⟨ys, e, pk, rk⟩ := hc
    obtain ⟨k, hk, rfl⟩ := Option.map_eq_some_iff.mp h
    obtain ⟨b, rfl, eb⟩ := r_pkey hk r
    have hv := PVS.val rk k
    refine ⟨_, .inr ⟨ys, k, b, e, pkeys_mono g pk, rfl, pat_mono g eb, rfl⟩, ?_, fun s hs => ?_⟩
    · cases ev : valS kvs k with
      | none => rw [ev] at hv; rw [hv]; rfl
      | some s => rw [ev] at hv; obtain ⟨v, e2, _⟩ := hv; rw [e2]; rfl
    · rw [hs] at hv
      exact hv
  · cases h
theorem CellOk.dic {a : Addr} {c : Cell} {d : D} {o : Option S} (hc : CellOk K α B H a c) (h : lookC c d = some o) : DicAt K α B H a c := by
  cases c with
  | dK kvs => exact hc.2
  | dT kvs => exact hc.2
  | dP kvs => exact hc.2
  | _ => cases h
theorem StB.cell (s : StB Φ K B α H σ ρ ω T) {v : V} {j : Nat} (m : (v, S.pin j) ∈ T) {c : Cell} (hc : ω[j]? = some c) : ∃ a, v = .ref a ∧ α[j]? = some a ∧ CellOk K α B H a c := by
  obtain ⟨a, ha, e⟩ := s.tm _ m
  exact ⟨a, e, ha, s.wd.cell j a c ha hc⟩
/-! ### a[b] -/
def rDGet (w : World) : R2 := fun x y H Q => ∃ a v, x = .ref a ∧ XP.DGetY w H a y (some v) ∧ Q v H
theorem ix_dict (hu : X.A.units + 2 < cLine) : IxR X (rDGet X.w) := by
  intro value slice pins s σ H x y v u Q I rx ry h hs
  obtain ⟨a, z, rfl, g, q⟩ := h
  obtain rfl : v = Value.ref a := rx
  have hT := XP.dy_typeIs I g
  have h₂ := XP.dy_getItem (Q := EP X pins σ Q) (E := X.xe) hu I g ry fun w' s3 I3 rw' => ⟨z, H, I3, rw', q⟩
  unfold subscriptTail
  refine wpAny_bind ?_
  rw [getitemInPython_of_ne hT.not_modules]
  refine wpAny_bind (wpAny_specialOf hT PySem.F.slot_dict_getitem.lookup ?_)
  have fin : wpAny (model X.prog X.w) X.A (subscripted slice false (.ref a) u) (fun r s₃ => wpAny (model X.prog X.w) X.A (letTemporaryGo value (.ref a) r >>= fun _ => pure r) (EP X pins σ Q) X.xe s₃) X.xe s := by
    rw [hs]
    exact wpAny_operating (wpAny_mono h₂ (fun r s₃ h₃ => wpAny_bind (wpAny_letTemporaryGo (wpAny_pure h₃))) fun _ _ x => x)
  first
    | exact wpAny_pure (wpAny_bind fin)
    | exact wpAny_bind (wpAny_pure (wpAny_bind fin))
    | exact wpAny_bind fin
def rIxY (K : PySem.W.Frag) (w : World) : R2 := fun x y H Q => rIx K x y H Q ∨ rDGet w x y H Q
theorem ix_Y (hu : X.A.units + 2 < cLine) : IxR X (rIxY X.K X.w) := ix_seq.or (ix_dict hu)
def valD {κ : Type} [DecidableEq κ] : List κ → List D → κ → Option D
  | a :: ks, d :: ds, k => if a = k then some d else valD ks ds k
  | _, _, _ => none
theorem valS_zip {κ : Type} [DecidableEq κ] {k : κ} : ∀ {ks : List κ} {ds : List D}, valS (ks.zip (ds.map S.d)) k = (valD ks ds k).map S.d
  | [], _ => rfl
  | _ :: _, [] => rfl
  | a :: ks, d :: ds => by
    have ih := valS_zip (k := k) (ks := ks) (ds := ds)
    rw [valD]
    unfold valS at ih ⊢
    rw [List.map_cons, List.zip_cons_cons, List.find?_cons]
    by_cases e : a = k
    · simp [e]
    · simp only [e, decide_false, if_false]
      exact ih
def ixD : FO := fun s1 s2 ω q => match s1, s2 with
  | .d (.tup ds), .d (.int i) => match atI ds i with
    | some d => q (.d d) ω
    | none => False
  | .d (.ktup ds), .d (.int i) => match atI ds i with
    | some d => q (.d d) ω
    | none => False
  | .d (.lst ds), .d (.int i) => match atI ds i with
    | some d => q (.d d) ω
    | none => False
  | .d (.str x), .d (.int i) => match atI x.cps.toList i with
    | some c => x.length ≤ 1000000 ∧ q (.d (.str ⟨#[c]⟩)) ω
    | none => False
  | .d (.dicK ks ds), .d d => match keyOf d with
    | some k => match valD ks ds k with
      | some d => q (.d d) ω
      | none => False
    | none => False
  | .d (.dicT ks ds), .d (.tup es) => match keysOf es with
    | some k => match valD ks ds k with
      | some d => q (.d d) ω
      | none => False
    | none => False
  | .d (.dicP ks ds), .d d => match pkeyOf d with
    | some k => match valD ks ds k with
      | some d => q (.d d) ω
      | none => False
    | none => False
  | .pin j, .d d => match ω[j]? with
    | some (.lst ss) => match d with
      | .int i => match atI ss i with
        | some s => q s ω
        | none => False
      | _ => False
    | some c => match lookC c d with
      | some (some s) => q s ω
      | _ => False
    | none => False
  | _, _ => False
theorem rs_at {vs : List V} {ds : List D} {i : Int} {d : D} (r : Rs K B vs ds) (h : atI ds i = some d) : ∃ v, atI vs i = some v ∧ R K B v d := by
  unfold atI at h ⊢
  obtain ⟨j, e1, e2⟩ := Option.bind_eq_some_iff.mp h
  obtain ⟨v, e3, r3⟩ := r.get e2
  exact ⟨v, by rw [r.len, e1]; exact e3, r3⟩
theorem paired_get {α β : Type} {F : α → β → Prop} : ∀ {l : List α} {m : List β} {i : Nat} {b : β}, Paired F l m → m[i]? = some b → ∃ a, l[i]? = some a ∧ F a b
  | _, _, i, b, .nil, e => by simp at e
  | _, _, 0, b, .cons h _, e => by simp at e; subst e; exact ⟨_, rfl, h⟩
  | _, _, i + 1, b, .cons _ t, e => by
    obtain ⟨v, a, b⟩ := paired_get (i := i) t (by simpa using e)
    exact ⟨v, by simpa using a, b⟩
theorem pss_at {vs : List V} {ss : List S} {i : Int} {s : S} (r : Paired (RS K α B) vs ss) (h : atI ss i = some s) : ∃ v, atI vs i = some v ∧ RS K α B v s := by
  unfold atI at h ⊢
  obtain ⟨j, e1, e2⟩ := Option.bind_eq_some_iff.mp h
  obtain ⟨v, e3, r3⟩ := paired_get r e2
  exact ⟨v, by rw [Paired.length r, e1]; exact e3, r3⟩
theorem refO_ix : RefO K (rIxY K w) ixD := fun Φ H σ ρ ω T v1 v2 s1 s2 q Q s m1 m2 k h => by
  unfold ixD at h
  obtain ⟨B, α, sb⟩ := s
  have stay : ∀ {d0 d1 : D} {d : D}, s1 = .d d0 → s2 = .d d1 → lookC (dicC d0) d1 = some (some (.d d)) → q (.d d) ω → rIxY K w v1 v2 H Q := fun {d0 d1 d} e1 e2 hl hq => by
    subst e1 e2
    obtain ⟨a, rfl, da⟩ := dic_at (α := α) sb.fr.bh (show R K B v1 d0 from sb.tm _ m1) (fun z => by rw [z] at hl; cases hl)
    obtain ⟨u, g, _, hu⟩ := look_get sb.fr.bh da (show R K B v2 d1 from sb.tm _ m2) hl
    obtain ⟨v, rfl, rv⟩ := hu _ rfl
    exact .inr ⟨a, v, rfl, g, k _ _ _ _ hq (sb.push rv).st⟩
  split at h
  · rename_i ds i
    cases e : atI ds i with
    | none => simp only [e] at h
    | some d =>
      simp only [e] at h
      obtain ⟨a, xs, rfl, ha, ra⟩ := r_tup (sb.tm _ m1)
      obtain ⟨v, ev, rv⟩ := rs_at ra e
      exact .inl (.inr (.inl ⟨a, xs, i, v, rfl, r_int (sb.tm _ m2), SqT.of (sb.fr.bh _ _ ha), ev, k _ _ _ _ h (sb.pushD rv).st⟩))
  · rename_i ds i
    cases e : atI ds i with
    | none => simp only [e] at h
    | some d =>
      simp only [e] at h
      obtain ⟨a, xs, rfl, ha, ra⟩ := r_ktup (sb.tm _ m1)
      obtain ⟨v, ev, rv⟩ := rs_at ra e
      exact .inl (.inr (.inl ⟨a, xs, i, v, rfl, r_int (sb.tm _ m2), sameT sb.fr.bh ha, ev, k _ _ _ _ h (sb.pushD rv).st⟩))
  · rename_i ds i
    cases e : atI ds i with
    | none => simp only [e] at h
    | some d =>
      simp only [e] at h
      obtain ⟨a, xs, rfl, ha, ra⟩ := r_lst (sb.tm _ m1)
      obtain ⟨v, ev, rv⟩ := rs_at ra e
      exact .inl (.inl ⟨a, xs, i, v, rfl, r_int (sb.tm _ m2), SqL.of (sb.fr.bh _ _ ha), ev, k _ _ _ _ h (sb.pushD rv).st⟩)
  · rename_i z i
    cases e : atI z.cps.toList i with
    | none => simp only [e] at h
    | some c =>
      simp only [e] at h
      exact .inl (.inr (.inr ⟨z, i, c, r_str (sb.tm _ m1), r_int (sb.tm _ m2), lineB h.1, e, k _ _ _ _ h.2 (sb.st.push fun _ => .str _)⟩))
  · rename_i ks ds d1
    split at h
    · rename_i kk ek
      split at h
      · rename_i d ed
        exact stay rfl rfl (by show (keyOf d1).map _ = _; rw [ek, Option.map_some, valS_zip, ed]; rfl) h
      · exact h.elim
    · exact h.elim
  · rename_i ks ds es
    split at h
    · rename_i kk ek
      split at h
      · rename_i d ed
        exact stay rfl rfl (by show (keysOf es).map _ = _; rw [ek, Option.map_some, valS_zip, ed]; rfl) h
      · exact h.elim
    · exact h.elim
  · rename_i ks ds d1
    split at h
    · rename_i kk ek
      split at h
      · rename_i d ed
        exact stay rfl rfl (by show (pkeyOf d1).map _ = _; rw [ek, Option.map_some, valS_zip, ed]; rfl) h
      · exact h.elim
    · exact h.elim
  · rename_i j d
    cases ec : ω[j]? with
    | none => simp only [ec] at h
    | some c =>
      obtain ⟨a, rfl, ha, hc⟩ := sb.cell m1 ec
      have dict : ∀ {o : Option S}, lookC c d = some o → (∀ s, o = some s → q s ω) → o.isSome = true → rIxY K w (.ref a) v2 H Q := fun {o} hl hq hs => by
        obtain ⟨u, g, _, hu⟩ := look_get sb.fr.bh (hc.dic hl) (sb.tm _ m2) hl
        cases o with
        | none => cases hs
        | some s =>
          obtain ⟨v, rfl, rv⟩ := hu s rfl
          exact .inr ⟨a, v, rfl, g, k _ _ _ _ (hq s rfl) (sb.push rv).st⟩
      simp only [ec] at h
      cases c with
      | lst ss =>
        simp only at h
        split at h
        · rename_i i
          cases e : atI ss i with
          | none => simp only [e] at h
          | some s =>
            simp only [e] at h
            obtain ⟨_, xs, ex, rp⟩ := hc
            obtain ⟨v, ev, rv⟩ := pss_at rp e
            exact .inl (.inl ⟨a, xs, i, v, rfl, r_int (sb.tm _ m2), SqL.of ex, ev, k _ _ _ _ h (sb.push rv).st⟩)
        · exact h.elim
      | dK kvs =>
        cases e : lookC (.dK kvs) d with
        | none => simp only [e] at h
        | some o =>
          cases o with
          | none => simp only [e] at h
          | some s => simp only [e] at h; exact dict e (fun s' e' => by cases e'; exact h) rfl
      | dT kvs =>
        cases e : lookC (.dT kvs) d with
        | none => simp only [e] at h
        | some o =>
          cases o with
          | none => simp only [e] at h
          | some s => simp only [e] at h; exact dict e (fun s' e' => by cases e'; exact h) rfl
      | dP kvs =>
        cases e : lookC (.dP kvs) d with
        | none => simp only [e] at h
        | some o =>
          cases o with
          | none => simp only [e] at h
          | some s => simp only [e] at h; exact dict e (fun s' e' => by cases e'; exact h) rfl
      | dead => simp only [lookC] at h
      | ins C fs => simp only [lookC] at h
      | tape => simp only [lookC] at h
  · exact h.elim
theorem y_ix {a b : Expr} {t u : TD} {pos : Pos} (hu : X.A.units + 2 < cLine) (h1 : PD X K E a h1t t) (h2 : PD X K E b h2t u) (hs : PlainIx b) (hK : X.K = K := by rfl) (hw : X.w = w := by rfl) : PD X K E (.Subscript a b pos) (tOp (rIxY K w) h1t h2t) (dOp ixD t u) := by
  subst hK hw
  exact ⟨pe_ix (ix_Y hu) h1.p h2.p hs, ref_op refO_ix h1.r h2.r⟩
/-! ### t[i:j] -/
def cutL {β : Type} (xs : List β) (lo hi : Option Int) : List β := (xs.drop (HT.sIx xs.length 0 lo)).take (HT.sIx xs.length xs.length hi - HT.sIx xs.length 0 lo)
theorem Rs.cut {vs : List V} {ds : List D} (r : Rs K B vs ds) (lo hi : Option Int) : Rs K B (cutV vs lo hi) (cutL ds lo hi) := by
  unfold cutV cutL
  rw [r.len]
  exact (r.drop _).take _
abbrev TOD := Env → Sto → (Option Int → Sto → Prop) → XD → Prop
def RefP (K : PySem.W.Frag) (E : XK) (ta : TO) (t : TOD) : Prop := ∀ (Φ : Phi) (H : Hp) (σ : L2.St) (ρ : Env) (ω : Sto) (T : List (V × S)) (q : Option Int → Sto → Prop) (Q : Option Int → Hp → Prop) (x : XD), St Φ K H σ ρ ω T → XOk Φ K x E →
  (∀ o ω' H', q o ω' → St Φ K H' σ ρ ω' T → Q o H') → t ρ ω q x → ta σ H Q
structure POD (X : Cx) (K : PySem.W.Frag) (E : XK) (e : Option Expr) (te : TO) (t : TOD) : Prop where
  p : PO X e te
  r : RefP K E te t
def dNoPart : TOD := fun _ ω q _ => q none ω
def dPart (t : TD) : TOD := fun ρ ω q x => t ρ ω (fun s ω' => match s with | .d (.int i) => q (some i) ω' | _ => False) x
theorem yo_none : POD X K E none (tNoPart) dNoPart := ⟨po_none, fun _ H _ _ ω _ _ _ _ s _ k h => k _ _ _ h s⟩
theorem yo_some {e : Expr} {t : TD} (hh : PD X K E e ht t) : POD X K E (some e) (tPart ht) (dPart t) := ⟨po_some hh.p, fun Φ H σ ρ ω T q Q x s hx k h => hh.r Φ H σ ρ ω T _ _ x s hx (fun s' ω' v H' h st => by
  split at h
  · obtain ⟨_, _, sb⟩ := st
    exact ⟨_, r_int (sb.tm _ (List.mem_cons_self)), k _ _ _ h (sb.st.sub fun p hp => List.mem_cons_of_mem _ hp)⟩
  · exact h.elim) h⟩
def slD (s : S) (lo hi : Option Int) (ω : Sto) (q : S → Sto → Prop) : Prop := match s with
  | .d (.tup ds) => q (.d (.tup (cutL ds lo hi))) ω
  | .d (.lst ds) => q (.d (.lst (cutL ds lo hi))) ω
  | .d (.str x) => x.length ≤ 1000000 ∧ q (.d (.str (cutS x lo hi))) ω
  | .pin j => match ω[j]? with
    | some (.lst ss) => match allD ss with
      | some ds => q (.d (.lst (cutL ds lo hi))) ω
      | none => False
    | _ => False
  | _ => False
def dSl (t : TD) (l h : TOD) : TD := fun ρ ω q x => t ρ ω (fun s ω1 => l ρ ω1 (fun lo ω2 => h ρ ω2 (fun hi ω3 => slD s lo hi ω3 q) x) x) x
def rSlY (K : PySem.W.Frag) : V → Option Int → Option Int → Hp → VK → Prop := fun x lo hi H Q => rSlA K x lo hi H Q ∨ rSlL K x lo hi H Q ∨ rSlS x lo hi H Q
theorem sl_Y : SlR X (rSlY X.K) := sl_tupA.or (sl_list.or sl_str)
theorem cut_whole {β : Type} {xs : List β} {lo hi : Option Int} (h : HT.sIx xs.length 0 lo = 0 ∧ HT.sIx xs.length xs.length hi = xs.length) : cutL xs lo hi = xs := by
  unfold cutL
  rw [h.1, h.2]
  simp
theorem sl_ok {v : V} {s : S} {lo hi : Option Int} {q : S → Sto → Prop} {Q : VK} (sb : StB Φ K B α H σ ρ ω T) (m : (v, s) ∈ T) (k : ∀ s ω' v H', q s ω' → St Φ K H' σ ρ ω' ((v, s) :: T) → Q v H') (h : slD s lo hi ω q) : rSlY K v lo hi H Q := by
  unfold slD at h
  split at h
  · rename_i ds
    obtain ⟨a, xs, rfl, ha, ra⟩ := r_tup (sb.tm _ m)
    refine .inl ⟨a, xs, rfl, SqT.of (sb.fr.bh _ _ ha), fun w => ?_, fun _ p hp => k _ _ _ _ h (sb.tup hp (ra.cut lo hi))⟩
    rw [ra.len] at w
    rw [cut_whole w] at h
    exact k _ _ _ _ h (sb.st.sub1 m)
  · rename_i ds
    obtain ⟨a, xs, rfl, ha, ra⟩ := r_lst (sb.tm _ m)
    exact .inr (.inl ⟨a, xs, rfl, SqL.of (sb.fr.bh _ _ ha), fun p hp => k _ _ _ _ h (sb.lstD hp (ra.cut lo hi))⟩)
  · exact .inr (.inr ⟨_, r_str (sb.tm _ m), lineB h.1, k _ _ _ _ h.2 (sb.st.push fun _ => .str _)⟩)
  · rename_i j
    split at h
    · rename_i ss ec
      cases e : allD ss with
      | none => simp only [e] at h
      | some ds =>
        simp only [e] at h
        obtain ⟨a, rfl, ha, _, xs, ex, rp⟩ := sb.cell m ec
        exact .inr (.inl ⟨a, xs, rfl, SqL.of ex, fun p hp => k _ _ _ _ h (sb.lstD hp ((rs_all rp e).cut lo hi))⟩)
    · exact h.elim
  · exact h.elim
theorem y_slice {e : Expr} {lo hi : Option Expr} {t : TD} {l u : TOD} {p2 pos : Pos} (h0 : PD X K E e ht t) (hl : POD X K E lo hlt l) (hh : POD X K E hi hht u) (hK : X.K = K := by rfl) : PD X K E (.Subscript e (.Slice lo hi none p2) pos) (tSl (rSlY K) ht hlt hht) (dSl t l u) := by
  subst hK
  refine ⟨pe_slice sl_Y h0.p hl.p hh.p, fun Φ H σ ρ ω T q Q x s hx k h => h0.r Φ H σ ρ ω T _ _ x s hx (fun s1 ω1 v1 H1 h st => hl.r Φ H1 σ ρ ω1 _ _ _ x st hx (fun lo ω2 H2 h st2 => hh.r Φ H2 σ ρ ω2 _ _ _ x st2 hx (fun hi ω3 H3 h st3 => ?_) h) h) h⟩
  obtain ⟨B, α, sb⟩ := st3
  exact sl_ok sb (List.mem_cons_self) (fun s' ω' v' H' hq hs => k s' ω' v' H' hq (hs.sub fun p hp => by
    rcases List.mem_cons.mp hp with rfl | hp
    · simp
    · simp [hp])) h
end
end Y

set_option Elab.async false
set_option linter.all false
set_option maxRecDepth 100000
set_option maxHeartbeats 2000000
namespace Y
open PySem PySem.Spec PyProof.Rows L2
variable {w : World} [Tb w]
section
variable {K : PySem.W.Frag} {X : Cx} {E : XK}
variable {Φ : Phi} {B : Hp} {α : List Addr} {H : Hp} {σ : L2.St} {ρ : Env} {ω : Sto} {T : List (V × S)}
/-! ### in -/
def flatD : D → Bool
  | .non => true
  | .bl _ => true
  | .int _ => true
  | .str _ => true
  | _ => false
def eqF : D → D → Bool
  | .non, .non => true
  | .bl a, .bl b => a == b
  | .bl a, .int b => (if a then 1 else 0) == b
  | .int a, .bl b => a == (if b then 1 else 0)
  | .int a, .int b => a == b
  | .str a, .str b => a == b
  | _, _ => false
theorem flat_V {v : V} {d : D} (r : R K B v d) (h : flatD d = true) : flatV v = true := by cases r <;> first | rfl | (simp [flatD] at h)
theorem eqF_V {v w : V} {a b : D} (r1 : R K B v a) (r2 : R K B w b) (h1 : flatD a = true) (h2 : flatD b = true) : eqV v w = eqF a b := by
  cases r1 <;> first | (simp [flatD] at h1; done) | skip
  all_goals (cases r2 <;> first | (simp [flatD] at h2; done) | rfl)
def memF (x : D) (ds : List D) : Bool := ds.any fun y => eqF y x
def memP (x : D) (ds : List D) : Bool := (toPs ds).any fun y => PyData.eqv y (toP x)
theorem memF_V {v : V} {x : D} (r : R K B v x) (h : flatD x = true) : ∀ {ds : List D} {vs : List V}, Rs K B vs ds → ds.all flatD = true → vs.all flatV = true ∧ inV v vs = memF x ds
  | [], _, .nil, _ => ⟨rfl, rfl⟩
  | d :: ds, _, .cons r1 t, hf => by
    rw [List.all_cons, Bool.and_eq_true] at hf
    obtain ⟨a, b⟩ := memF_V r h t hf.2
    unfold inV memF at b ⊢
    rw [List.all_cons, List.any_cons, List.any_cons, a, b, flat_V r1 hf.1, eqF_V r1 r hf.1 h]
    exact ⟨rfl, rfl⟩
def inStr (x y : Str) : Bool := !(Builtin.Str.occurrences y x 0 y.length 1).isEmpty
def inSq (neg : Bool) (x : D) (ds : List D) (ω : Sto) (q : S → Sto → Prop) : Prop :=
  ((flatD x = true ∧ ds.all flatD = true) ∧ q (.d (.bl (neg ^^ memF x ds))) ω) ∨ ((okD x ∧ okD (.tup ds)) ∧ q (.d (.bl (neg ^^ memP x ds))) ω)
def inD (neg : Bool) : FO := fun s1 s2 ω q => match s1, s2 with
  | .d x, .d (.tup ds) => inSq neg x ds ω q
  | .d x, .d (.ktup ds) => inSq neg x ds ω q
  | .d x, .d (.lst ds) => inSq neg x ds ω q
  | .d (.str x), .d (.str y) => q (.d (.bl (neg ^^ inStr x y))) ω
  | .d x, .d (.dicK ks ds) => match keyOf x with
    | some k => q (.d (.bl (neg ^^ (valD ks ds k).isSome))) ω
    | none => False
  | .d (.tup es), .d (.dicT ks ds) => match keysOf es with
    | some k => q (.d (.bl (neg ^^ (valD ks ds k).isSome))) ω
    | none => False
  | .d x, .d (.dicP ks ds) => match pkeyOf x with
    | some k => q (.d (.bl (neg ^^ (valD ks ds k).isSome))) ω
    | none => False
  | .d x, .pin j => match ω[j]? with
    | some (.lst ss) => match allD ss with
      | some ds => inSq neg x ds ω q
      | none => False
    | some c => match lookC c x with
      | some o => q (.d (.bl (neg ^^ o.isSome))) ω
      | none => False
    | none => False
  | _, _ => False
def rInDT (K : PySem.W.Frag) (neg : Bool) : R2 := fun x y H Q => ∃ d ds, Dp K H x d ∧ Dp K H y (.tuple ds) ∧ SeqAt.shaped d = true ∧ SeqAt.shaped (.tuple ds) = true ∧ Q (.bl (neg ^^ ds.any fun z => PyData.eqv z d)) H
def rInDL (K : PySem.W.Frag) (neg : Bool) : R2 := fun x y H Q => ∃ d ds, Dp K H x d ∧ Dp K H y (.list ds) ∧ SeqAt.shaped d = true ∧ SeqAt.shaped (.tuple ds) = true ∧ Q (.bl (neg ^^ ds.any fun z => PyData.eqv z d)) H
theorem shaped_lt {ds : List PyData} (h : SeqAt.shaped (.tuple ds) = true) : SeqAt.shaped (.list ds) = true := by
  unfold SeqAt.shaped at h ⊢
  simpa [PyData.canLay0, PyData.depth] using h
theorem room_inY {A : Around} {da : PyData} {xs : List PyData} (h : SeqAt.shaped da = true) (hu : A.units + 65 < cLine) : A.units + 1 + min (PyData.depthAll xs) da.depth < cLine := by
  have h1 := SeqAt.depth_of_shaped h
  have h2 : min (PyData.depthAll xs) da.depth ≤ da.depth := Nat.min_le_right _ _
  omega
theorem op_inDT (hu : X.A.units + 65 < cLine) : OpR X (compareOp .In) (rInDT X.K false) := by
  intro pins s σ H x y v u Q I rx ry h
  obtain ⟨d, ds, hd, he, sd, se, q⟩ := h
  obtain ⟨as, r1⟩ := Dp.reads I d x v hd rx
  obtain ⟨bs, r2⟩ := Dp.reads I (.tuple ds) y u he ry
  refine SeqAt.in_tuple_reads r2 r1 ?_ (SeqAt.canLay_of_shaped sd) (room_inY sd hu) ⟨.bl _, H, I, rfl, by simpa using q⟩
  simpa [PyData.canLay0] using SeqAt.canLay_of_shaped se
theorem op_notInDT (hu : X.A.units + 65 < cLine) : OpR X (compareOp .NotIn) (rInDT X.K true) := by
  intro pins s σ H x y v u Q I rx ry h
  obtain ⟨d, ds, hd, he, sd, se, q⟩ := h
  obtain ⟨as, r1⟩ := Dp.reads I d x v hd rx
  obtain ⟨bs, r2⟩ := Dp.reads I (.tuple ds) y u he ry
  refine SeqAt.notIn_tuple_reads r2 r1 ?_ (SeqAt.canLay_of_shaped sd) (room_inY sd hu) ⟨.bl _, H, I, rfl, by simpa using q⟩
  simpa [PyData.canLay0] using SeqAt.canLay_of_shaped se
theorem op_inDL (hu : X.A.units + 65 < cLine) : OpR X (compareOp .In) (rInDL X.K false) := by
  intro pins s σ H x y v u Q I rx ry h
  obtain ⟨d, ds, hd, he, sd, se, q⟩ := h
  exact op_inD hu pins s σ H x y v u Q I rx ry ⟨d, ds, hd, he, sd, shaped_lt se, by simpa using q⟩
theorem op_notInDL (hu : X.A.units + 65 < cLine) : OpR X (compareOp .NotIn) (rInDL X.K true) := by
  intro pins s σ H x y v u Q I rx ry h
  obtain ⟨d, ds, hd, he, sd, se, q⟩ := h
  exact op_notInD hu pins s σ H x y v u Q I rx ry ⟨d, ds, hd, he, sd, shaped_lt se, by simpa using q⟩
def rDIn (w : World) (neg : Bool) : R2 := fun y x H Q => ∃ a o, x = .ref a ∧ XP.DGetY w H a y o ∧ Q (.bl (neg ^^ o.isSome)) H
theorem op_dIn (hu : X.A.units + 65 < cLine) : OpR X (compareOp .In) (rDIn X.w false) := by
  intro pins s σ H x y v u Q I rx ry h
  obtain ⟨a, o, rfl, g, q⟩ := h
  obtain rfl : u = Value.ref a := ry
  exact XP.dy_in (by omega) I g rx fun s3 I3 => ⟨.bl o.isSome, H, I3, rfl, by simpa using q⟩
theorem op_dNotIn (hu : X.A.units + 65 < cLine) : OpR X (compareOp .NotIn) (rDIn X.w true) := by
  intro pins s σ H x y v u Q I rx ry h
  obtain ⟨a, o, rfl, g, q⟩ := h
  obtain rfl : u = Value.ref a := ry
  exact XP.dy_notIn (by omega) I g rx fun s3 I3 => ⟨.bl (!o.isSome), H, I3, rfl, by simpa using q⟩
def rInS (neg : Bool) : R2 := fun x y H Q => ∃ i j, x = .str i ∧ y = .str j ∧ Q (.bl (neg ^^ inStr i j)) H
theorem op_inSt : OpR X (compareOp .In) (rInS false) := by
  intro pins s σ H x y v u Q I rx ry h
  obtain ⟨i, j, e1, e2, q⟩ := h
  exact op_in_str pins s σ H x y v u Q I rx ry ⟨i, j, e1, e2, by simpa [inStr] using q⟩
theorem op_notInSt : OpR X (compareOp .NotIn) (rInS true) := by
  intro pins s σ H x y v u Q I rx ry h
  obtain ⟨i, j, e1, e2, q⟩ := h
  exact op_notIn_str pins s σ H x y v u Q I rx ry ⟨i, j, e1, e2, by simpa [inStr] using q⟩
def rInY (K : PySem.W.Frag) (w : World) (neg : Bool) : R2 := fun x y H Q => rIn K neg x y H Q ∨ rInDT K neg x y H Q ∨ rInDL K neg x y H Q ∨ rDIn w neg x y H Q ∨ rInS neg x y H Q
theorem op_inY (hu : X.A.units + 65 < cLine) : OpR X (compareOp .In) (rInY X.K X.w false) := op_in_seq.or ((op_inDT hu).or ((op_inDL hu).or ((op_dIn hu).or op_inSt)))
theorem op_notInY (hu : X.A.units + 65 < cLine) : OpR X (compareOp .NotIn) (rInY X.K X.w true) := op_notIn_seq.or ((op_notInDT hu).or ((op_notInDL hu).or ((op_dNotIn hu).or op_notInSt)))
theorem nx {neg b : Bool} : (if neg then !b else b) = (neg ^^ b) := by cases neg <;> simp
theorem refO_in {neg : Bool} : RefO K (rInY K w neg) (inD neg) := fun Φ H σ ρ ω T v1 v2 s1 s2 q Q s m1 m2 k h => by
  unfold inD at h
  obtain ⟨B, α, sb⟩ := s
  have fin : ∀ {b : Bool}, q (.d (.bl b)) ω → Q (.bl b) H := fun hq => k _ _ _ _ hq (sb.st.push fun _ => .bl _)
  have stay : ∀ {d0 d1 : D} {o : Option S}, s1 = .d d0 → s2 = .d d1 → lookC (dicC d1) d0 = some o → q (.d (.bl (neg ^^ o.isSome))) ω → rInY K w neg v1 v2 H Q := fun {d0 d1 o} e1 e2 hl hq => by
    subst e1 e2
    obtain ⟨a, rfl, da⟩ := dic_at (α := α) sb.fr.bh (show R K B v2 d1 from sb.tm _ m2) (fun z => by rw [z] at hl; cases hl)
    obtain ⟨u, g, hi, _⟩ := look_get sb.fr.bh da (show R K B v1 d0 from sb.tm _ m1) hl
    refine .inr (.inr (.inr (.inl ⟨a, u, rfl, g, ?_⟩)))
    rw [hi]
    exact fin hq
  have sq : ∀ {a : Addr} {xs : List V} {x : D} {ds : List D}, R K B v1 x → v2 = .ref a → (SqL K H a xs ∨ SqT K H a xs) → Rs K B xs ds → inSq neg x ds ω q → rInY K w neg v1 v2 H Q := fun {a xs x ds} r1 e hs rs hq => by
    subst e
    rcases hq with ⟨⟨f1, f2⟩, hq⟩ | ⟨⟨o1, o2⟩, hq⟩
    · obtain ⟨x1, x2⟩ := memF_V r1 f1 rs f2
      refine .inl ⟨a, xs, rfl, hs, flat_V r1 f1, x1, ?_⟩
      rw [nx, x2]
      exact fin hq
    · have hp : pureDs ds = true := by simpa [pureD] using o2.1
      have da := rs_dp (K := K) sb.fr.bh hp rs
      rcases hs with hs | hs
      · exact .inr (.inr (.inl ⟨_, _, r_dp sb.fr.bh o1.1 r1, .lst hs da, o1.2, by simpa [toP] using o2.2, fin hq⟩))
      · exact .inr (.inl ⟨_, _, r_dp sb.fr.bh o1.1 r1, .tup hs da, o1.2, by simpa [toP] using o2.2, fin hq⟩)
  split at h
  · obtain ⟨a, xs, e, ha, ra⟩ := r_tup (sb.tm _ m2)
    exact sq (sb.tm _ m1) e (.inr (SqT.of (sb.fr.bh _ _ ha))) ra h
  · obtain ⟨a, xs, e, ha, ra⟩ := r_ktup (sb.tm _ m2)
    exact sq (sb.tm _ m1) e (.inr (sameT sb.fr.bh ha)) ra h
  · obtain ⟨a, xs, e, ha, ra⟩ := r_lst (sb.tm _ m2)
    exact sq (sb.tm _ m1) e (.inl (SqL.of (sb.fr.bh _ _ ha))) ra h
  · exact .inr (.inr (.inr (.inr ⟨_, _, r_str (sb.tm _ m1), r_str (sb.tm _ m2), fin h⟩)))
  · rename_i x ks ds
    split at h
    · rename_i kk ek
      exact stay rfl rfl (by show (keyOf x).map _ = _; rw [ek, Option.map_some, valS_zip]) (by simpa using h)
    · exact h.elim
  · rename_i es ks ds
    split at h
    · rename_i kk ek
      exact stay rfl rfl (by show (keysOf es).map _ = _; rw [ek, Option.map_some, valS_zip]) (by simpa using h)
    · exact h.elim
  · rename_i x ks ds
    split at h
    · rename_i kk ek
      exact stay rfl rfl (by show (pkeyOf x).map _ = _; rw [ek, Option.map_some, valS_zip]) (by simpa using h)
    · exact h.elim
  · rename_i x j
    cases ec : ω[j]? with
    | none => simp only [ec] at h
    | some c =>
      obtain ⟨a, e, ha, hc⟩ := sb.cell m2 ec
      have dict : ∀ {o : Option S}, lookC c x = some o → q (.d (.bl (neg ^^ o.isSome))) ω → rInY K w neg v1 v2 H Q := fun {o} hl hq => by
        obtain ⟨u, g, hi, _⟩ := look_get sb.fr.bh (hc.dic hl) (sb.tm _ m1) hl
        subst e
        refine .inr (.inr (.inr (.inl ⟨a, u, rfl, g, ?_⟩)))
        rw [hi]
        exact fin hq
      simp only [ec] at h
      cases c with
      | lst ss =>
        cases ed : allD ss with
        | none => simp only [ed] at h
        | some ds =>
          simp only [ed] at h
          obtain ⟨_, xs, ex, rp⟩ := hc
          exact sq (sb.tm _ m1) e (.inl (SqL.of ex)) (rs_all rp ed) h
      | dK kvs =>
        cases el : lookC (.dK kvs) x with
        | none => simp only [el] at h
        | some o => simp only [el] at h; exact dict el h
      | dT kvs =>
        cases el : lookC (.dT kvs) x with
        | none => simp only [el] at h
        | some o => simp only [el] at h; exact dict el h
      | dP kvs =>
        cases el : lookC (.dP kvs) x with
        | none => simp only [el] at h
        | some o => simp only [el] at h; exact dict el h
      | dead => simp only [lookC] at h
      | ins C fs => simp only [lookC] at h
      | tape => simp only [lookC] at h
  · exact h.elim
/-! ### comparisons, as values and as tests -/
def asB (q : Bool → Sto → Prop) : S → Sto → Prop := fun s ω => match s with | .d (.bl b) => q b ω | _ => False
def dTest (t : TD) : TTD := fun ρ ω q x => t ρ ω (asB q) x
theorem asB_ok {q : Bool → Sto → Prop} {s : S} {ω : Sto} {v : V} (h : asB q s ω) (st : St Φ K H σ ρ ω ((v, s) :: T)) : ∃ b, v = .bl b ∧ q b ω ∧ St Φ K H σ ρ ω T := by
  unfold asB at h
  split at h
  · obtain ⟨_, _, sb⟩ := st
    exact ⟨_, r_bl (sb.tm _ List.mem_cons_self), h, sb.st.sub fun p hp => List.mem_cons_of_mem _ hp⟩
  · exact h.elim
theorem ref_test {te : TE} {t : TD} (r : Ref K E te t) : RefT K E (tTest te) (dTest t) := fun Φ H σ ρ ω T q Q x s hx k h => r Φ H σ ρ ω T _ _ x s hx (fun s' ω' v H' h st => by
  obtain ⟨b, rfl, hq, st'⟩ := asB_ok h st
  exact ⟨b, rfl, k _ _ _ hq st'⟩) h
section
variable {a b c : Expr} {t u w : TD} {pos : Pos}
theorem y_cmp {op : CmpOp} {r : R2} {f : FO} (ho : OpR X (compareOp op) r) (hf : RefO K r f) (h1 : PD X K E a h1t t) (h2 : PD X K E b h2t u) (hm : behindInMarks op b = false) : PD X K E (.Compare a [op] [b] pos) (tOp r h1t h2t) (dOp f t u) :=  ⟨pe_cmpR ho h1.p h2.p hm, ref_op hf h1.r h2.r⟩
theorem yt_cmp {op : CmpOp} {r : R2} {f : FO} (ho : OpR X (compareOp op) r) (hf : RefO K r f) (h1 : PD X K E a h1t t) (h2 : PD X K E b h2t u) (hm : behindInMarks op b = false) : PTD X K E (.Compare a [op] [b] pos) (tTest (tOp r h1t h2t)) (dTest (dOp f t u)) :=  ⟨pt_cmpR ho h1.p h2.p hm, ref_test (ref_op hf h1.r h2.r)⟩
theorem op_eqY (hu : X.A.units + 64 < cLine) : OpR X (compareOp .Eq) (rEqY X.K) := op_eq.or (op_eqD hu)
theorem op_neY (hu : X.A.units + 64 < cLine) : OpR X (compareOp .NotEq) (rNeY X.K) := op_ne.or (op_neD hu)
abbrev rOrd (gi : Int → Int → Bool) (gs : Str → Str → Bool) : R2 := fun x y H Q => rI0 (fun i j => .bl (gi i j)) x y H Q ∨ ∃ i j, x = .str i ∧ y = .str j ∧ Q (.bl (gs i j)) H
theorem op_ltY : OpR X (compareOp .Lt) (rOrd (fun i j => decide (i < j)) ltS) := op_lt.or op_lt_str
theorem op_leY : OpR X (compareOp .LtE) (rOrd (fun i j => decide (i ≤ j)) (fun x y => !ltS y x)) := op_le.or op_le_str
theorem op_gtY : OpR X (compareOp .Gt) (rOrd (fun i j => decide (j < i)) (fun x y => ltS y x)) := op_gt.or op_gt_str
theorem op_geY : OpR X (compareOp .GtE) (rOrd (fun i j => decide (j ≤ i)) (fun x y => !ltS x y)) := op_ge.or op_ge_str
end
end
end Y

set_option Elab.async false
set_option linter.all false
set_option maxRecDepth 100000
set_option maxHeartbeats 2000000
namespace Y
open PySem PySem.Spec PyProof.Rows L2
variable {w : World} [Tb w]
section
variable {K : PySem.W.Frag} {X : Cx} {E : XK}
variable {Φ : Phi} {B : Hp} {α : List Addr} {H : Hp} {σ : L2.St} {ρ : Env} {ω : Sto} {T : List (V × S)}
/-! ### and, or, not, if -/
def dAndT (t u : TTD) : TTD := fun ρ ω q x => t ρ ω (fun b ω1 => if b = true then u ρ ω1 q x else q false ω1) x
def dOrT (t u : TTD) : TTD := fun ρ ω q x => t ρ ω (fun b ω1 => if b = true then q true ω1 else u ρ ω1 q x) x
def dNotT (t : TTD) : TTD := fun ρ ω q x => t ρ ω (fun b ω1 => q (!b) ω1) x
def dAndV (t u : TD) : TD := fun ρ ω q x => t ρ ω (asB fun b ω1 => if b = true then u ρ ω1 q x else q (.d (.bl false)) ω1) x
def dOrV (t u : TD) : TD := fun ρ ω q x => t ρ ω (asB fun b ω1 => if b = true then q (.d (.bl true)) ω1 else u ρ ω1 q x) x
def dNotV (t : TD) : TD := fun ρ ω q x => t ρ ω (asB fun b ω1 => q (.d (.bl (!b))) ω1) x
def dIf (c : TTD) (t u : TD) : TD := fun ρ ω q x => c ρ ω (fun b ω1 => if b = true then t ρ ω1 q x else u ρ ω1 q x) x
theorem refT_and {a b : TT} {t u : TTD} (h1 : RefT K E a t) (h2 : RefT K E b u) : RefT K E (tAnd a b) (dAndT t u) := fun Φ H σ ρ ω T q Q x s hx k h => h1 Φ H σ ρ ω T _ _ x s hx (fun b ω1 H1 h s1 => by
  cases b with
  | true => rw [if_pos rfl] at h ⊢; exact h2 Φ H1 σ ρ ω1 T q Q x s1 hx k h
  | false => rw [if_neg Bool.false_ne_true] at h ⊢; exact k _ _ _ h s1) h
theorem refT_or {a b : TT} {t u : TTD} (h1 : RefT K E a t) (h2 : RefT K E b u) : RefT K E (tOr a b) (dOrT t u) := fun Φ H σ ρ ω T q Q x s hx k h => h1 Φ H σ ρ ω T _ _ x s hx (fun b ω1 H1 h s1 => by
  cases b with
  | true => rw [if_pos rfl] at h ⊢; exact k _ _ _ h s1
  | false => rw [if_neg Bool.false_ne_true] at h ⊢; exact h2 Φ H1 σ ρ ω1 T q Q x s1 hx k h) h
theorem refT_not {a : TT} {t : TTD} (h1 : RefT K E a t) : RefT K E (tNot a) (dNotT t) := fun Φ H σ ρ ω T q Q x s hx k h => h1 Φ H σ ρ ω T _ _ x s hx (fun b ω1 H1 h s1 => k _ _ _ h s1) h
theorem ref_and {a b : TE} {t u : TD} (h1 : Ref K E a t) (h2 : Ref K E b u) : Ref K E (tAndV a b) (dAndV t u) := fun Φ H σ ρ ω T q Q x s hx k h => h1 Φ H σ ρ ω T _ _ x s hx (fun s1 ω1 v H1 h st => by
  obtain ⟨b, rfl, h, st'⟩ := asB_ok h st
  refine ⟨b, rfl, ?_⟩
  cases b with
  | true => rw [if_pos rfl] at h ⊢; exact h2 Φ H1 σ ρ ω1 T q Q x st' hx k h
  | false => rw [if_neg Bool.false_ne_true] at h ⊢; exact k _ _ _ _ h (st'.push fun _ => .bl _)) h
theorem ref_or {a b : TE} {t u : TD} (h1 : Ref K E a t) (h2 : Ref K E b u) : Ref K E (tOrV a b) (dOrV t u) := fun Φ H σ ρ ω T q Q x s hx k h => h1 Φ H σ ρ ω T _ _ x s hx (fun s1 ω1 v H1 h st => by
  obtain ⟨b, rfl, h, st'⟩ := asB_ok h st
  refine ⟨b, rfl, ?_⟩
  cases b with
  | true => rw [if_pos rfl] at h ⊢; exact k _ _ _ _ h (st'.push fun _ => .bl _)
  | false => rw [if_neg Bool.false_ne_true] at h ⊢; exact h2 Φ H1 σ ρ ω1 T q Q x st' hx k h) h
theorem ref_not {a : TE} {t : TD} (h1 : Ref K E a t) : Ref K E (tNotV a) (dNotV t) := fun Φ H σ ρ ω T q Q x s hx k h => h1 Φ H σ ρ ω T _ _ x s hx (fun s1 ω1 v H1 h st => by
  obtain ⟨b, rfl, h, st'⟩ := asB_ok h st
  exact ⟨b, rfl, k _ _ _ _ h (st'.push fun _ => .bl _)⟩) h
theorem ref_if {c : TT} {a b : TE} {d : TTD} {t u : TD} (h0 : RefT K E c d) (h1 : Ref K E a t) (h2 : Ref K E b u) : Ref K E (tIf c a b) (dIf d t u) := fun Φ H σ ρ ω T q Q x s hx k h => h0 Φ H σ ρ ω T _ _ x s hx (fun b ω1 H1 h s1 => by
  cases b with
  | true => rw [if_pos rfl] at h ⊢; exact h1 Φ H1 σ ρ ω1 T q Q x s1 hx k h
  | false => rw [if_neg Bool.false_ne_true] at h ⊢; exact h2 Φ H1 σ ρ ω1 T q Q x s1 hx k h) h
section
variable {a b c : Expr} {rest : List Expr} {t u : TTD} {v w : TD} {pos : Pos}
theorem yw_and1 (h : PTD X K E a ht t) : PWD X K E (.BoolOp .And [a] pos) (ht) t := ⟨pw_and1 h.p, h.r⟩
theorem yw_or1 (h : PTD X K E a ht t) : PWD X K E (.BoolOp .Or [a] pos) (ht) t := ⟨pw_or1 h.p, h.r⟩
theorem yw_and (h1 : PTD X K E a h1t t) (h2 : PWD X K E (.BoolOp .And (b :: rest) pos) h2t u) : PWD X K E (.BoolOp .And (a :: b :: rest) pos) (tAnd h1t h2t) (dAndT t u) := ⟨pw_and h1.p h2.p, refT_and h1.r h2.r⟩
theorem yw_or (h1 : PTD X K E a h1t t) (h2 : PWD X K E (.BoolOp .Or (b :: rest) pos) h2t u) : PWD X K E (.BoolOp .Or (a :: b :: rest) pos) (tOr h1t h2t) (dOrT t u) := ⟨pw_or h1.p h2.p, refT_or h1.r h2.r⟩
theorem yt_w (h : PWD X K E a ht t) : PTD X K E a (ht) t := ⟨h.p.pt, h.r⟩
theorem yt_not (h : PTD X K E a ht t) : PTD X K E (.UnaryOp .Not a pos) (tNot ht) (dNotT t) := ⟨pt_not h.p, refT_not h.r⟩
theorem y_one {op} (h : PD X K E a ht v) : PD X K E (.BoolOp op [a] pos) (ht) v := ⟨pe_one h.p, h.r⟩
theorem y_and (h1 : PD X K E a h1t v) (h2 : PD X K E (.BoolOp .And (b :: rest) pos) h2t w) : PD X K E (.BoolOp .And (a :: b :: rest) pos) (tAndV h1t h2t) (dAndV v w) := ⟨pe_and h1.p h2.p, ref_and h1.r h2.r⟩
theorem y_or (h1 : PD X K E a h1t v) (h2 : PD X K E (.BoolOp .Or (b :: rest) pos) h2t w) : PD X K E (.BoolOp .Or (a :: b :: rest) pos) (tOrV h1t h2t) (dOrV v w) := ⟨pe_or h1.p h2.p, ref_or h1.r h2.r⟩
theorem y_not (h : PD X K E a ht v) : PD X K E (.UnaryOp .Not a pos) (tNotV ht) (dNotV v) := ⟨pe_not h.p, ref_not h.r⟩
theorem y_if (h0 : PTD X K E c h0t t) (h1 : PD X K E a h1t v) (h2 : PD X K E b h2t w) : PD X K E (.IfExp c a b pos) (tIf h0t h1t h2t) (dIf t v w) := ⟨pe_ifExp h0.p h1.p h2.p, ref_if h0.r h1.r h2.r⟩
theorem yt_val (h : PD X K E a ht v) (he : ∀ whole, isTrue a X.env whole = (do let v ← whole; standAt a.pos; holding [v] (truthy v)) := by intro _; rfl) : PTD X K E a (tTest ht) (dTest v) := ⟨pt_val h.p he, ref_test h.r⟩
end
/-- a value's truth -/
def truD (s : S) (ω : Sto) (q : Bool → Sto → Prop) : Prop := match s with
  | .d .non => q false ω
  | .d (.bl b) => q b ω
  | .d (.int i) => q (i != 0) ω
  | .d (.str y) => y.length ≤ 1000000 ∧ q ((y.length : Int) != 0) ω
  | .d (.tup ds) => q (!ds.isEmpty) ω
  | .d (.ktup ds) => q (!ds.isEmpty) ω
  | .d (.lst ds) => q (!ds.isEmpty) ω
  | .pin j => match ω[j]? with
    | some (.lst ss) => q (!ss.isEmpty) ω
    | some (.dK kvs) => q (!kvs.isEmpty) ω
    | _ => False
  | _ => False
def dTru (t : TD) : TTD := fun ρ ω q x => t ρ ω (fun s ω' => truD s ω' q) x
theorem paired_empty {α β : Type} {F : α → β → Prop} {l : List α} {m : List β} (h : Paired F l m) : l.isEmpty = m.isEmpty := by cases h <;> rfl
theorem tru_ok2 {v : V} {s : S} {q : Bool → Sto → Prop} {Q : Bool → Hp → Prop} (sb : StB Φ K B α H σ ρ ω T) (m : (v, s) ∈ T) (k : ∀ b, q b ω → Q b H) (h : truD s ω q) : ∃ b, TruV K v H b ∧ Q b H := by
  unfold truD at h
  split at h
  · obtain rfl : v = .non := r_non (sb.tm _ m)
    exact ⟨_, rfl, k _ h⟩
  · obtain rfl : v = .bl _ := r_bl (sb.tm _ m)
    exact ⟨_, rfl, k _ h⟩
  · obtain rfl : v = .int _ := r_int (sb.tm _ m)
    exact ⟨_, rfl, k _ h⟩
  · obtain rfl : v = .str _ := r_str (sb.tm _ m)
    exact ⟨_, ⟨lineB h.1, rfl⟩, k _ h.2⟩
  · obtain ⟨a, xs, rfl, ha, ra⟩ := r_tup (sb.tm _ m)
    exact ⟨_, .inr (.inl ⟨xs, SqT.of (sb.fr.bh _ _ ha), by rw [paired_empty ra.paired]⟩), k _ h⟩
  · obtain ⟨a, xs, rfl, ha, ra⟩ := r_ktup (sb.tm _ m)
    exact ⟨_, .inr (.inl ⟨xs, sameT sb.fr.bh ha, by rw [paired_empty ra.paired]⟩), k _ h⟩
  · obtain ⟨a, xs, rfl, ha, ra⟩ := r_lst (sb.tm _ m)
    exact ⟨_, .inl ⟨xs, SqL.of (sb.fr.bh _ _ ha), by rw [paired_empty ra.paired]⟩, k _ h⟩
  · split at h
    · rename_i e
      obtain ⟨a, rfl, ha, _, xs, ex, rp⟩ := sb.cell m e
      exact ⟨_, .inl ⟨xs, SqL.of ex, by rw [paired_empty rp]⟩, k _ h⟩
    · rename_i e
      obtain ⟨a, rfl, ha, _, ys, ey, rk⟩ := sb.cell m e
      exact ⟨_, .inr (.inr ⟨ys, ey, by rw [paired_empty rk]⟩), k _ h⟩
    · exact h.elim
  · exact h.elim
def tTruY (K : PySem.W.Frag) (te : TE) : TT := fun σ H Q => te σ H fun x H1 => ∃ k, TruV K x H1 k ∧ Q k H1
theorem yt_tru {e : Expr} {t : TD} (h0 : PD X K E e ht t) (he : ∀ whole, isTrue e X.env whole = (do let v ← whole; standAt e.pos; holding [v] (truthy v)) := by intro _; rfl) (hK : X.K = K := by rfl) : PTD X K E e (tTruY K ht) (dTru t) := by
  subst hK
  exact ⟨pt_truth h0.p he, fun Φ H σ ρ ω T q Q x s hx k h => h0.r Φ H σ ρ ω T _ _ x s hx (fun s1 ω1 v H1 h st => by
  obtain ⟨B, α, sb⟩ := st
  exact tru_ok2 sb List.mem_cons_self (fun b hb => k _ _ _ hb (sb.st.sub fun p hp => List.mem_cons_of_mem _ hp)) h) h⟩
/-! ### a op b op c -/
def dChain (f g : FO) (t u w : TD) : TD := fun ρ ω q x => t ρ ω (fun s1 ω1 => u ρ ω1 (fun s2 ω2 => f s1 s2 ω2 (asB fun b ω3 => if b = true then w ρ ω3 (fun s3 ω4 => g s2 s3 ω4 q) x else q (.d (.bl false)) ω3)) x) x
theorem ref_chain {r r' : R2} {f g : FO} {ta tb tc : TE} {t u w : TD} (hf : RefO K r f) (hg : RefO K r' g) (h1 : Ref K E ta t) (h2 : Ref K E tb u) (h3 : Ref K E tc w) : Ref K E (tChain r r' ta tb tc) (dChain f g t u w) := fun Φ H σ ρ ω T q Q x s hx k h =>
  h1 Φ H σ ρ ω T _ _ x s hx (fun s1 ω1 v1 H1 h st1 => h2 Φ H1 σ ρ ω1 _ _ _ x st1 hx (fun s2 ω2 v2 H2 h st2 => hf Φ H2 σ ρ ω2 _ v1 v2 s1 s2 _ _ st2 (by simp) (by simp) (fun s3 ω3 v3 H3 h st3 => by
    obtain ⟨b, rfl, h, st3'⟩ := asB_ok h st3
    refine ⟨b, rfl, ?_⟩
    have fin : ∀ {y : V × S} {ω' : Sto} {H' : Hp} {U : List (V × S)}, St Φ K H' σ ρ ω' (y :: (U ++ ((v2, s2) :: (v1, s1) :: T))) → St Φ K H' σ ρ ω' (y :: T) := fun st => st.sub fun p hp => by
      rcases List.mem_cons.mp hp with rfl | hp
      · simp
      · simp [hp]
    cases b with
    | true =>
      rw [if_pos rfl] at h ⊢
      exact h3 Φ H3 σ ρ ω3 _ _ _ x st3' hx (fun s4 ω4 v4 H4 h st4 => hg Φ H4 σ ρ ω4 _ v2 v4 s2 s4 q Q st4 (by simp) (by simp) (fun s5 ω5 v5 H5 h st5 => k _ _ _ _ h (fin (U := [(v4, s4)]) st5)) h) h
    | false =>
      rw [if_neg Bool.false_ne_true] at h ⊢
      exact k _ _ _ _ h (fin (U := []) (st3'.push fun _ => .bl _))) h) h) h
theorem y_chain {a b c : Expr} {t u w : TD} {op op' : CmpOp} {r r' : R2} {f g : FO} {pos : Pos} (ho : OpR X (compareOp op) r) (ho' : OpR X (compareOp op') r') (hf : RefO K r f) (hg : RefO K r' g) (h1 : PD X K E a h1t t) (h2 : PD X K E b h2t u) (h3 : PD X K E c h3t w)
    (hm : lastMarks [op, op'] [b, c] = false := by with_unfolding_all rfl) : PD X K E (.Compare a [op, op'] [b, c] pos) (tChain r r' h1t h2t h3t) (dChain f g t u w) :=  ⟨pe_chain ho ho' h1.p h2.p h3.p hm, ref_chain hf hg h1.r h2.r h3.r⟩
theorem yt_chain {a b c : Expr} {t u w : TD} {op op' : CmpOp} {r r' : R2} {f g : FO} {pos : Pos} (ho : OpR X (compareOp op) r) (ho' : OpR X (compareOp op') r') (hf : RefO K r f) (hg : RefO K r' g) (h1 : PD X K E a h1t t) (h2 : PD X K E b h2t u) (h3 : PD X K E c h3t w)
    (hm : lastMarks [op, op'] [b, c] = false := by with_unfolding_all rfl) : PTD X K E (.Compare a [op, op'] [b, c] pos) (tTest (tChain r r' h1t h2t h3t)) (dTest (dChain f g t u w)) :=  ⟨pt_chain ho ho' h1.p h2.p h3.p hm, ref_test (ref_chain hf hg h1.r h2.r h3.r)⟩
/-! ### statements -/
structure EndsD where
  nx : Env → Sto → Prop
  rt : S → Sto → Prop
  bk : Env → Sto → Prop
  ct : Env → Sto → Prop
  x : XD
abbrev TSD := EndsD → Env → Sto → Prop
structure Links (Φ : Phi) (K : PySem.W.Frag) (T : List (V × S)) (E : XK) (En : Ends) (ed : EndsD) : Prop where
  nx : ∀ σ H ρ ω, ed.nx ρ ω → St Φ K H σ ρ ω T → En.nx σ H
  bk : ∀ σ H ρ ω, ed.bk ρ ω → St Φ K H σ ρ ω T → En.bk σ H
  ct : ∀ σ H ρ ω, ed.ct ρ ω → St Φ K H σ ρ ω T → En.ct σ H
  rt : ∀ v σ H ρ s ω, ed.rt s ω → St Φ K H σ ρ ω ((v, s) :: T) → En.rt v H
  x : XOk Φ K ed.x E
def RefS (K : PySem.W.Frag) (E : XK) (ts : TS) (t : TSD) : Prop := ∀ (Φ : Phi) (H : Hp) (σ : L2.St) (ρ : Env) (ω : Sto) (T : List (V × S)) (En : Ends) (ed : EndsD), St Φ K H σ ρ ω T → Links Φ K T E En ed → t ed ρ ω → ts En σ H
structure PSD (X : Cx) (K : PySem.W.Frag) (E : XK) (st : Stmt) (te : TS) (t : TSD) : Prop where
  p : PS X st te
  r : RefS K E te t
structure PSsD (X : Cx) (K : PySem.W.Frag) (E : XK) (st : List Stmt) (te : TS) (t : TSD) : Prop where
  p : PSs X st te
  r : RefS K E te t
def dNext : TSD := fun ed ρ ω => ed.nx ρ ω
def dSeq (t u : TSD) : TSD := fun ed ρ ω => t { ed with nx := u ed } ρ ω
def dRet (t : TD) : TSD := fun ed ρ ω => t ρ ω ed.rt ed.x
def dRetN : TSD := fun ed _ ω => ed.rt (.d .non) ω
def dIfS (c : TTD) (t u : TSD) : TSD := fun ed ρ ω => c ρ ω (fun b ω1 => if b = true then t ed ρ ω1 else u ed ρ ω1) ed.x
def dDrop (t : TD) : TSD := fun ed ρ ω => t ρ ω (fun _ ω' => ed.nx ρ ω') ed.x
def dSet (i : Nat) (t : TD) : TSD := fun ed ρ ω => t ρ ω (fun s ω' => ed.nx (ρ.set i (some s)) ω') ed.x
def dBreak : TSD := fun ed ρ ω => ed.bk ρ ω
def dCont : TSD := fun ed ρ ω => ed.ct ρ ω
def dNever : TSD := fun _ _ _ => False
section
variable {st : Stmt} {rest : List Stmt} {t u : TSD} {e : Expr} {v : TD} {pos : Pos}
theorem ys_nil : PSsD X K E [] (tNext) dNext := ⟨pss_nil, fun Φ H σ ρ ω T En ed s l h => l.nx _ _ _ _ h s⟩
theorem ys_cons (h1 : PSD X K E st h1t t) (h2 : PSsD X K E rest h2t u) : PSsD X K E (st :: rest) (tSeq h1t h2t) (dSeq t u) := ⟨pss_cons h1.p h2.p, fun Φ H σ ρ ω T En ed s l h => h1.r Φ H σ ρ ω T _ { ed with nx := u ed } s ⟨fun σ' H' ρ' ω' h s' => h2.r Φ H' σ' ρ' ω' T En ed s' l h, l.bk, l.ct, l.rt, l.x⟩ h⟩
theorem ys_one (h1 : PSD X K E st h1t t) : PSsD X K E [st] (h1t) t := ⟨pss_one h1.p, h1.r⟩
theorem ys_never {sts : List Stmt} : PSsD X K E sts (tNever) dNever := ⟨pss_never, fun _ _ _ _ _ _ _ _ _ _ h => h.elim⟩
theorem y_never : PSD X K E st (tNever) dNever := ⟨ps_never, fun _ _ _ _ _ _ _ _ _ _ h => h.elim⟩
theorem y_pass : PSD X K E (.Pass pos) (tNext) dNext := ⟨ps_pass, fun Φ H σ ρ ω T En ed s l h => l.nx _ _ _ _ h s⟩
theorem y_break : PSD X K E (.Break pos) (tBreak) dBreak := ⟨ps_break, fun Φ H σ ρ ω T En ed s l h => l.bk _ _ _ _ h s⟩
theorem y_continue : PSD X K E (.Continue pos) (tCont) dCont := ⟨ps_continue, fun Φ H σ ρ ω T En ed s l h => l.ct _ _ _ _ h s⟩
theorem y_ret (h0 : PD X K E e ht v) : PSD X K E (.Return (some e) pos) (tRet ht) (dRet v) := ⟨ps_ret h0.p, fun Φ H σ ρ ω T En ed s l h => h0.r Φ H σ ρ ω T _ _ _ s l.x (fun s' ω' w H' h st => l.rt _ _ _ _ _ _ h st) h⟩
theorem y_retN : PSD X K E (.Return none pos) (tRetN) dRetN := ⟨ps_retN, fun Φ H σ ρ ω T En ed s l h => l.rt _ _ _ _ _ _ h (s.push fun _ => .non)⟩
theorem y_ifS {c : Expr} {a b : List Stmt} {d : TTD} (hc : PTD X K E c hct d) (h1 : PSsD X K E a h1t t) (h2 : PSsD X K E b h2t u) : PSD X K E (.If c a b pos) (tIfS hct h1t h2t) (dIfS d t u) := ⟨ps_if hc.p h1.p h2.p, fun Φ H σ ρ ω T En ed s l h => hc.r Φ H σ ρ ω T _ _ _ s l.x (fun b ω1 H1 h s1 => by
  cases b with
  | true => rw [if_pos rfl] at h ⊢; exact h1.r Φ H1 σ ρ ω1 T En ed s1 l h
  | false => rw [if_neg Bool.false_ne_true] at h ⊢; exact h2.r Φ H1 σ ρ ω1 T En ed s1 l h) h⟩
theorem y_expr (h0 : PD X K E e ht v) (hs : swapsWith e none pos.line X.env = pure false := by rfl) : PSD X K E (.Expr e pos) (tDrop ht) (dDrop v) := ⟨ps_expr h0.p hs, fun Φ H σ ρ ω T En ed s l h => h0.r Φ H σ ρ ω T _ _ _ s l.x (fun s' ω' w H' h st => l.nx _ _ _ _ h (st.sub fun p hp => List.mem_cons_of_mem _ hp)) h⟩
theorem y_doc {x j pos pos'} : PSD X K E (.Expr (.Constant (.str x) j pos) pos') (tNext) dNext := ⟨ps_doc, fun Φ H σ ρ ω T En ed s l h => l.nx _ _ _ _ h s⟩
theorem StB.store (s : StB Φ K B α H σ ρ ω T) {v : V} {y : S} (r : RS K α B v y) (i : Nat) : StB Φ K B α H (σ.set i (some v)) (ρ.set i (some y)) ω T := ⟨s.fr, s.wd, by
  refine ⟨by rw [List.length_set, List.length_set]; exact s.sl.1, fun j z hz => ?_⟩
  rw [List.getElem?_set] at hz
  split at hz
  · rename_i e
    subst e
    split at hz
    · rename_i hl
      cases hz
      exact ⟨v, by rw [List.getElem?_set_self (by rw [s.sl.1]; exact hl)], r⟩
    · cases hz
  · rename_i e
    obtain ⟨w, e1, r1⟩ := s.sl.2 j z hz
    exact ⟨w, by rw [List.getElem?_set_ne e]; exact e1, r1⟩, s.tm⟩
theorem St.store {v : V} {y : S} (s : St Φ K H σ ρ ω ((v, y) :: T)) (i : Nat) : St Φ K H (σ.set i (some v)) (ρ.set i (some y)) ω T := let ⟨B, α, x⟩ := s; ⟨B, α, (x.store (x.tm (v, y) List.mem_cons_self) i).sub fun p hp => List.mem_cons_of_mem _ hp⟩
theorem y_set {i : Nat} {x : Str} {pos' : Pos} (hN : X.N.Nodup) (hi : X.N[i]? = some x) (h0 : PD X K E e ht v) (hx : Loc X.env.scope x := by first | exact Or.inl rfl | exact Or.inr rfl) (hs : swapsWith e (some (.Name x pos')) pos.line X.env = pure false := by rfl)
    (hf : X.fn x = true ∨ X.env.scope.names.lookup x = some .local := by first | exact .inl rfl | exact .inr rfl | assumption) : PSD X K E (.Assign [.Name x pos'] e pos) (tAsg ht (gName i)) (dSet i v) :=
  ⟨ps_set hN hi hx h0.p hs hf, fun Φ H σ ρ ω T En ed s l h => h0.r Φ H σ ρ ω T _ _ _ s l.x (fun s' ω' w H' h st => l.nx _ _ _ _ h (st.store i)) h⟩
end
end
end Y

set_option Elab.async false
set_option linter.all false
set_option maxRecDepth 100000
set_option maxHeartbeats 2000000
namespace Y
open PySem PySem.Spec PyProof.Rows L2
variable {w : World} [Tb w]
section
variable {K : PySem.W.Frag} {X : Cx} {E : XK}
variable {Φ : Phi} {B : Hp} {α : List Addr} {H : Hp} {σ : L2.St} {ρ : Env} {ω : Sto} {T : List (V × S)}
/-! ### targets -/
abbrev TGD := S → Env → Sto → (Env → Sto → Prop) → Prop
abbrev TGsD := List D → Env → Sto → (Env → Sto → Prop) → Prop
def RefG (K : PySem.W.Frag) (g : TG) (gd : TGD) : Prop := ∀ (Φ : Phi) (H : Hp) (σ : L2.St) (ρ : Env) (ω : Sto) (T : List (V × S)) (v : V) (s : S) (q : Env → Sto → Prop) (Q : L2.St → Hp → Prop), St Φ K H σ ρ ω T → (v, s) ∈ T →
  (∀ σ' H' ρ' ω', q ρ' ω' → St Φ K H' σ' ρ' ω' T → Q σ' H') → gd s ρ ω q → g v σ H Q
def RefGs (K : PySem.W.Frag) (g : TGs) (gd : TGsD) : Prop := ∀ (Φ : Phi) (B : Hp) (α : List Addr) (H : Hp) (σ : L2.St) (ρ : Env) (ω : Sto) (T : List (V × S)) (vs : List V) (ds : List D) (q : Env → Sto → Prop) (Q : L2.St → Hp → Prop), StB Φ K B α H σ ρ ω T → Rs K B vs ds →
  (∀ σ' H' ρ' ω', q ρ' ω' → St Φ K H' σ' ρ' ω' T → Q σ' H') → gd ds ρ ω q → g vs σ H Q
structure PGD (X : Cx) (K : PySem.W.Frag) (e : Expr) (g : TG) (gd : TGD) : Prop where
  p : PG X e g
  r : RefG K g gd
structure PGsD (X : Cx) (K : PySem.W.Frag) (es : List Expr) (g : TGs) (gd : TGsD) : Prop where
  p : PGs X es g
  r : RefGs K g gd
def dgName (i : Nat) : TGD := fun s ρ ω q => q (ρ.set i (some s)) ω
def dgNil : TGsD := fun ds ρ ω q => ds = [] ∧ q ρ ω
def dgCons (g : TGD) (u : TGsD) : TGsD := fun ds ρ ω q => match ds with | d :: r => g (.d d) ρ ω (fun ρ1 ω1 => u r ρ1 ω1 q) | [] => False
def dgTup (n : Nat) (u : TGsD) : TGD := fun s ρ ω q => match s with | .d (.tup ds) => ds.length = n ∧ u ds ρ ω q | _ => False
theorem yg_name {i : Nat} {x : Str} {pos : Pos} (hN : X.N.Nodup) (hi : X.N[i]? = some x) (hx : Loc X.env.scope x := by first | exact Or.inl rfl | exact Or.inr rfl) (hf : X.fn x = true ∨ X.env.scope.names.lookup x = some .local := by first | exact .inl rfl | exact .inr rfl | assumption) : PGD X K (.Name x pos) (gName i) (dgName i) :=
  ⟨pg_name hN hi hx hf, fun Φ H σ ρ ω T v s q Q st m k h => k _ _ _ _ h ((st.sub1 m).store i)⟩
theorem ygs_nil : PGsD X K [] gNil dgNil := ⟨pgs_nil, fun Φ B α H σ ρ ω T vs ds q Q st r k h => by
  obtain ⟨rfl, h⟩ := h
  cases r
  exact ⟨rfl, k _ _ _ _ h st.st⟩⟩
/-- a name ahead of others -/
theorem ygs_cons {e : Expr} {es : List Expr} {i : Nat} {u : TGsD} {g2 : TGs} (h1 : PGD X K e (gName i) (dgName i)) (h2 : PGsD X K es g2 u) (hs : (assignEach (e :: es) X.env).map (·.2) = assign e X.env :: (assignEach es X.env).map (·.2) := by rfl) : PGsD X K (e :: es) (gCons (gName i) g2) (dgCons (dgName i) u) :=
  ⟨pgs_cons h1.p h2.p hs, fun Φ B α H σ ρ ω T vs ds q Q st r k h => by
    cases r with
    | nil => exact h.elim
    | cons r t => exact ⟨_, _, rfl, h2.r Φ B α H _ _ ω T _ _ q Q (st.store (y := .d _) r i) t k h⟩⟩
theorem yg_tup {es : List Expr} {kk : Nat} {t : TGs} {u : TGsD} {n : Nat} {pos : Pos} (hc : X.calm = true) (h0 : PGsD X K es t u) (hn : (assignEach es X.env).length = n := by rfl) (hst : (assignEach es X.env).findIdx? (·.1) = none := by rfl) (hK : X.K = K := by rfl) : PGD X K (.Tuple es kk pos) (gTup K n t) (dgTup n u) := by
  subst hK
  refine ⟨pg_tup hc h0.p hn hst, fun Φ H σ ρ ω T v s q Q st m k h => ?_⟩
  unfold dgTup at h
  split at h
  · obtain ⟨B, α, sb⟩ := st
    obtain ⟨a, xs, rfl, ha, ra⟩ := r_tup (sb.tm _ m)
    exact ⟨a, xs, rfl, SqT.of (sb.fr.bh _ _ ha), ra.len.trans h.1, h0.r Φ B α H σ ρ ω T _ _ q Q sb ra k h.2⟩
  · exact h.elim
theorem y_asg {tg e : Expr} {g : TG} {gd : TGD} {v : TD} {pos : Pos} (h0 : PD X K E e ht v) (hg : PGD X K tg g gd) (hs : swapsWithSole [tg] e pos.line X.env = pure false := by rfl) (hw : swappedStores [tg] e X.env = pure none := by rfl)
    (h1 : (assignEach [tg] X.env).map (·.2) = [assign tg X.env] := by rfl) : PSD X K E (.Assign [tg] e pos) (tAsg ht g) (fun ed ρ ω => v ρ ω (fun s ω' => gd s ρ ω' ed.nx) ed.x) :=
  ⟨ps_asg h0.p hg.p hs hw h1, fun Φ H σ ρ ω T En ed s l h => h0.r Φ H σ ρ ω T _ _ _ s l.x (fun s' ω' w H' h st => hg.r Φ H' σ ρ ω' _ w s' _ _ st List.mem_cons_self (fun σ2 H2 ρ2 ω2 h st2 => l.nx _ _ _ _ h (st2.sub fun p hp => List.mem_cons_of_mem _ hp)) h) h⟩
/-! ### what is walked -/
def ItD (K : PySem.W.Frag) (J : It) (T0 : List (V × S)) (P : Sto → Prop) (is : List S) : Prop := ∃ (G : Hp → Prop) (Yd : Nat → Hp → V → Hp → Prop), Walk J is.length G Yd ∧ ∀ (Φ : Phi) (H : Hp) (σ : L2.St) (ρ : Env) (ω : Sto) (T : List (V × S)), St Φ K H σ ρ ω T → (∀ p ∈ T0, p ∈ T) → P ω →
  G H ∧ ∀ i x H', i < is.length → Yd i H x H' → ∃ s, is[i]? = some s ∧ St Φ K H' σ ρ ω ((x, s) :: T)
abbrev TID := Env → Sto → (List S → (Sto → Prop) → Sto → Prop) → XD → Prop
def RefI (K : PySem.W.Frag) (E : XK) (wi : TI) (t : TID) : Prop := ∀ (Φ : Phi) (H : Hp) (σ : L2.St) (ρ : Env) (ω : Sto) (T : List (V × S)) (q : List S → (Sto → Prop) → Sto → Prop) (Rr : It → Hp → Prop) (x : XD), St Φ K H σ ρ ω T → XOk Φ K x E →
  (∀ is P ω' J H' T0, q is P ω' → St Φ K H' σ ρ ω' (T0 ++ T) → ItD K J T0 P is → Rr J H') → t ρ ω q x → wi σ H Rr
structure PID (X : Cx) (K : PySem.W.Frag) (E : XK) (tg iter : Expr) (wi : TI) (t : TID) : Prop where
  p : PI X tg iter wi
  r : RefI K E wi t
def strS (z : Str) : List S := z.cps.toList.map fun c => .d (.str ⟨#[c]⟩)
/-- a list, a tuple, a text, as it stands -/
def seqD (s : S) (ω : Sto) (q : List S → (Sto → Prop) → Sto → Prop) : Prop := match s with
  | .d (.tup ds) => q (ds.map .d) (fun _ => True) ω
  | .d (.ktup ds) => q (ds.map .d) (fun _ => True) ω
  | .d (.lst ds) => q (ds.map .d) (fun _ => True) ω
  | .d (.klst ds) => q (ds.map .d) (fun _ => True) ω
  | .d (.str z) => q (strS z) (fun _ => True) ω
  | .pin j => match ω[j]? with
    | some (.lst ss) => q ss (fun ω' => ω'[j]? = some (.lst ss)) ω
    | _ => False
  | _ => False
def dSeqI (t : TD) : TID := fun ρ ω q x => t ρ ω (fun s ω' => seqD s ω' q) x
def iSeq (K : PySem.W.Frag) (tl : TE) : TI := fun σ H Rr => tl σ H fun x H1 => (∃ a, x = .ref a ∧ (∃ xs, SqL K H1 a xs) ∧ Rr (Itl K a) H1) ∨ (∃ a, x = .ref a ∧ (∃ xs, SqT K H1 a xs) ∧ Rr (Itt K a) H1) ∨ ∃ z, x = .str z ∧ Rr (Its z) H1
theorem pi_seq {tg l : Expr} {tl : TE} (hl : PE X l tl) : PI X tg l (iSeq X.K tl) := by
  refine ⟨fun pins s σ H Rr I h => ?_⟩
  refine thn (hl.run pins s σ H _ I h) fun v s1 ⟨x, H1, I1, r1, q1⟩ => ?_
  rcases q1 with ⟨a, e, ⟨xs, hq⟩, q⟩ | ⟨a, e, ⟨xs, hq⟩, q⟩ | ⟨z, e, q⟩
  · subst e
    cases r1
    obtain ⟨its, rv, p, hz⟩ := I1.list hq
    refine wpAny_pyIter_list p.isList ?_
    refine ⟨s1.heap.objs.size, [s1.heap.objs.size], _, _, H1, rfl, I1.kept (t' := s1.toks) fun b o e => Heap.get?_push_of_some _ e, turn_list a _, ⟨_, Heap.get?_push_size _ rfl, rfl, rfl⟩, fun b hb => ?_, q⟩
    have e : b = s1.heap.objs.size := by simpa using hb
    subst e
    exact I1.fpOk (Nat.le_refl _) (I1.hok.fresh (Nat.le_refl _))
  · subst e
    cases r1
    obtain ⟨its, rv, p, hz⟩ := I1.tuple hq
    refine wpAny_pyIter_tuple (show s1.heap.IsTuple a its.toArray from p) ?_
    refine ⟨s1.heap.objs.size, [s1.heap.objs.size], _, _, H1, rfl, I1.kept (t' := s1.toks) fun b o e => Heap.get?_push_of_some _ e, turn_tuple a _, ⟨_, Heap.get?_push_size _ rfl, rfl, rfl⟩, fun b hb => ?_, q⟩
    have e : b = s1.heap.objs.size := by simpa using hb
    subst e
    exact I1.fpOk (Nat.le_refl _) (I1.hok.fresh (Nat.le_refl _))
  · subst e
    obtain ⟨t, rfl⟩ := r1
    cases ha : z.cps.all (· < 128)
    · exact wpAny_pyIter_wide ha (pi_one (tk := s1.toks) I1 _ (turn_str _ z t "str_iterator" (.inr rfl)) ⟨_, Heap.get?_push_size _ rfl, rfl, rfl⟩ q)
    · exact wpAny_pyIter_ascii ha (pi_one (tk := s1.toks) I1 _ (turn_str _ z t "str_ascii_iterator" (.inl rfl)) ⟨_, Heap.get?_push_size _ rfl, rfl, rfl⟩ q)
theorem St.head {v : V} {s : S} (st : St Φ K H σ ρ ω T) (m : (v, s) ∈ T) : St Φ K H σ ρ ω ([(v, s)] ++ T) := st.sub1 m
theorem walk_l {a : Addr} {n : Nat} : Walk (Itl K a) n (fun H => ∃ xs, SqL K H a xs ∧ xs.length = n) (Itl K a).yld :=
  ⟨fun i H hi ⟨xs, h, e⟩ => ⟨xs, xs[i]'(by omega), h, List.getElem?_eq_getElem (by omega)⟩, fun H ⟨xs, h, e⟩ => ⟨xs, h, by omega⟩, fun _ _ _ _ _ _ y => y⟩
theorem walk_t {a : Addr} {n : Nat} : Walk (Itt K a) n (fun H => ∃ xs, SqT K H a xs ∧ xs.length = n) (Itt K a).yld :=
  ⟨fun i H hi ⟨xs, h, e⟩ => ⟨xs, xs[i]'(by omega), h, List.getElem?_eq_getElem (by omega)⟩, fun H ⟨xs, h, e⟩ => ⟨xs, h, by omega⟩, fun _ _ _ _ _ _ y => y⟩
theorem ds_get {ds : List D} {i : Nat} (hi : i < (ds.map S.d).length) : ∃ d, ds[i]? = some d ∧ (ds.map S.d)[i]? = some (.d d) := by
  rw [List.length_map] at hi
  exact ⟨ds[i], List.getElem?_eq_getElem hi, by rw [List.getElem?_map, List.getElem?_eq_getElem hi]; rfl⟩
theorem it_tup {a : Addr} {ds : List D} : ItD K (Itt K a) [(.ref a, .d (.tup ds))] (fun _ => True) (ds.map .d) := ⟨_, _, walk_t, fun Φ H σ ρ ω T st m _ => by
  obtain ⟨B, α, sb⟩ := st
  obtain ⟨a', xs, e, ha, ra⟩ := r_tup (sb.tm (.ref a, .d (.tup ds)) (m _ (by simp)))
  cases e
  have hs := SqT.of (K := K) (sb.fr.bh _ _ ha)
  refine ⟨⟨xs, hs, by rw [List.length_map]; exact ra.len⟩, fun i x H' hi y => ?_⟩
  obtain ⟨rfl, y⟩ := y
  obtain ⟨d, e1, e2⟩ := ds_get hi
  obtain ⟨v, ev, rv⟩ := ra.get e1
  obtain rfl : x = v := Option.some.inj ((y xs hs).symm.trans ev)
  exact ⟨_, e2, (sb.pushD rv).st⟩⟩
theorem it_ktup {a : Addr} {ds : List D} : ItD K (Itt K a) [(.ref a, .d (.ktup ds))] (fun _ => True) (ds.map .d) := ⟨_, _, walk_t, fun Φ H σ ρ ω T st m _ => by
  obtain ⟨B, α, sb⟩ := st
  obtain ⟨a', xs, e, ha, ra⟩ := r_ktup (sb.tm (.ref a, .d (.ktup ds)) (m _ (by simp)))
  cases e
  have hs := sameT sb.fr.bh ha
  refine ⟨⟨xs, hs, by rw [List.length_map]; exact ra.len⟩, fun i x H' hi y => ?_⟩
  obtain ⟨rfl, y⟩ := y
  obtain ⟨d, e1, e2⟩ := ds_get hi
  obtain ⟨v, ev, rv⟩ := ra.get e1
  obtain rfl : x = v := Option.some.inj ((y xs hs).symm.trans ev)
  exact ⟨_, e2, (sb.pushD rv).st⟩⟩
theorem it_lst {a : Addr} {ds : List D} : ItD K (Itl K a) [(.ref a, .d (.lst ds))] (fun _ => True) (ds.map .d) := ⟨_, _, walk_l, fun Φ H σ ρ ω T st m _ => by
  obtain ⟨B, α, sb⟩ := st
  obtain ⟨a', xs, e, ha, ra⟩ := r_lst (sb.tm (.ref a, .d (.lst ds)) (m _ (by simp)))
  cases e
  have hs := SqL.of (K := K) (sb.fr.bh _ _ ha)
  refine ⟨⟨xs, hs, by rw [List.length_map]; exact ra.len⟩, fun i x H' hi y => ?_⟩
  obtain ⟨rfl, y⟩ := y
  obtain ⟨d, e1, e2⟩ := ds_get hi
  obtain ⟨v, ev, rv⟩ := ra.get e1
  obtain rfl : x = v := Option.some.inj ((y xs hs).symm.trans ev)
  exact ⟨_, e2, (sb.pushD rv).st⟩⟩
theorem it_klst {a : Addr} {ds : List D} : ItD K (Itl K a) [(.ref a, .d (.klst ds))] (fun _ => True) (ds.map .d) := ⟨_, _, walk_l, fun Φ H σ ρ ω T st m _ => by
  obtain ⟨B, α, sb⟩ := st
  obtain ⟨a', xs, e, ha, ra⟩ := r_klst (sb.tm (.ref a, .d (.klst ds)) (m _ (by simp)))
  cases e
  have hs := sb.fr.bh.seq ha
  refine ⟨⟨xs, hs, by rw [List.length_map]; exact ra.len⟩, fun i x H' hi y => ?_⟩
  obtain ⟨rfl, y⟩ := y
  obtain ⟨d, e1, e2⟩ := ds_get hi
  obtain ⟨v, ev, rv⟩ := ra.get e1
  obtain rfl : x = v := Option.some.inj ((y xs hs).symm.trans ev)
  exact ⟨_, e2, (sb.pushD rv).st⟩⟩
theorem it_pin {a : Addr} {j : Nat} {ss : List S} : ItD K (Itl K a) [(.ref a, .pin j)] (fun ω => ω[j]? = some (.lst ss)) ss := ⟨_, _, walk_l, fun Φ H σ ρ ω T st m hp => by
  obtain ⟨B, α, sb⟩ := st
  obtain ⟨a', e, ha, _, xs, ex, rp⟩ := sb.cell (m (.ref a, .pin j) (by simp)) hp
  cases e
  have hs := SqL.of (K := K) ex
  refine ⟨⟨xs, hs, Paired.length rp⟩, fun i x H' hi y => ?_⟩
  obtain ⟨rfl, y⟩ := y
  have e2 : ss[i]? = some ss[i] := List.getElem?_eq_getElem hi
  obtain ⟨v, ev, rv⟩ := paired_get rp e2
  obtain rfl : x = v := Option.some.inj ((y xs hs).symm.trans ev)
  exact ⟨_, e2, (sb.push rv).st⟩⟩
theorem it_str {z : Str} : ItD K (Its z) [] (fun _ => True) (strS z) := by
  have hl : (strS z).length = z.cps.size := by simp [strS]
  refine ⟨fun _ => True, _, hl ▸ walk_str, fun Φ H σ ρ ω T st m _ => ⟨True.intro, fun i x H' hi y => ?_⟩⟩
  obtain ⟨rfl, c, hc, rfl⟩ := y
  refine ⟨.d (.str ⟨#[c]⟩), ?_, st.push fun _ => .str _⟩
  unfold strS
  rw [List.getElem?_map, Array.getElem?_toList, hc]
  rfl
theorem refI_seq {tl : TE} {t : TD} (h0 : Ref K E tl t) : RefI K E (iSeq K tl) (dSeqI t) := fun Φ H σ ρ ω T q Rr x s hx k h => h0 Φ H σ ρ ω T _ _ x s hx (fun s1 ω1 v H1 h st => by
  unfold seqD at h
  obtain ⟨B, α, sb⟩ := st
  split at h
  · rename_i ds
    obtain ⟨a, xs, e, ha, ra⟩ := r_tup (sb.tm _ List.mem_cons_self)
    have e : v = .ref a := e
    subst e
    exact .inr (.inl ⟨a, rfl, ⟨xs, SqT.of (sb.fr.bh _ _ ha)⟩, k _ _ _ _ _ [_] h sb.st it_tup⟩)
  · rename_i ds
    obtain ⟨a, xs, e, ha, ra⟩ := r_ktup (sb.tm _ List.mem_cons_self)
    have e : v = .ref a := e
    subst e
    exact .inr (.inl ⟨a, rfl, ⟨xs, sameT sb.fr.bh ha⟩, k _ _ _ _ _ [_] h sb.st it_ktup⟩)
  · rename_i ds
    obtain ⟨a, xs, e, ha, ra⟩ := r_lst (sb.tm _ List.mem_cons_self)
    have e : v = .ref a := e
    subst e
    exact .inl ⟨a, rfl, ⟨xs, SqL.of (sb.fr.bh _ _ ha)⟩, k _ _ _ _ _ [_] h sb.st it_lst⟩
  · rename_i ds
    obtain ⟨a, xs, e, ha, ra⟩ := r_klst (sb.tm _ List.mem_cons_self)
    have e : v = .ref a := e
    subst e
    exact .inl ⟨a, rfl, ⟨xs, sb.fr.bh.seq ha⟩, k _ _ _ _ _ [_] h sb.st it_klst⟩
  · rename_i z
    have e : v = .str z := r_str (sb.tm _ List.mem_cons_self)
    subst e
    exact .inr (.inr ⟨z, rfl, k _ _ _ _ _ [] h (sb.st.sub fun p hp => List.mem_cons_of_mem _ hp) it_str⟩)
  · rename_i j
    split at h
    · rename_i ss ec
      obtain ⟨a, e, ha, _, xs, ex, rp⟩ := sb.cell List.mem_cons_self ec
      subst e
      exact .inl ⟨a, rfl, ⟨xs, SqL.of ex⟩, k _ _ _ _ _ [_] h sb.st it_pin⟩
    · exact h.elim
  · exact h.elim) h
theorem yi_seq {tg l : Expr} {t : TD} (h0 : PD X K E l ht t) (hK : X.K = K := by rfl) : PID X K E tg l (iSeq K ht) (dSeqI t) := by
  subst hK
  exact ⟨pi_seq h0.p, refI_seq h0.r⟩
/-! ### ranges -/
def rngS (lo : Int) (n : Nat) : List S := (List.range n).map fun (i : Nat) => .d (.int (lo + i))
theorem it_rng {lo : Int} {n : Nat} : ItD K (Itr lo n) [] (fun _ => True) (rngS lo n) := by
  have hl : (rngS lo n).length = n := by simp [rngS]
  refine ⟨fun _ => True, YFn fun i => .int (lo + i), by rw [hl]; exact walk_range, fun Φ H σ ρ ω T st m _ => ⟨True.intro, fun i x H' hi y => ?_⟩⟩
  obtain ⟨rfl, rfl⟩ := y
  refine ⟨.d (.int (lo + i)), ?_, st.push fun _ => .int _⟩
  rw [hl] at hi
  simp [rngS, hi]
def int62 (i : Int) : Prop := -(2 ^ 62) ≤ i ∧ i < 2 ^ 62
def dRng1 (u : TAD) : TID := fun ρ ω q x => u ρ ω (fun ss ω' => match ss with | [.d (.int j)] => int62 j ∧ q (rngS 0 j.toNat) (fun _ => True) ω' | _ => False) x
def dRng2 (u : TAD) : TID := fun ρ ω q x => u ρ ω (fun ss ω' => match ss with | [.d (.int i), .d (.int j)] => (int62 i ∧ int62 j) ∧ q (rngS i (j - i).toNat) (fun _ => True) ω' | _ => False) x
theorem yi_range1 {tg a : Expr} {u : TAD} {p pos : Pos} (hm : X.mg "range" = none) (h0 : PAD X K E [a] ht u) (hg : Gl X "range" := by rfl) (hs : starEach [a] X.env = [(false, eval a X.env)] := by rfl) : PID X K E tg (.Call (.Name "range" p) [a] [] pos) (iRng1 ht) (dRng1 u) :=
  ⟨pi_range1 hg hm h0.p hs, fun Φ H σ ρ ω T q Rr x s hx k h => h0.r Φ H σ ρ ω T _ _ x s hx (fun ss ω1 vs H1 h l st => by
    split at h
    · match vs, l with
      | [v], _ =>
        obtain ⟨B, α, sb⟩ := st
        exact ⟨_, congrArg (fun z => [z]) (r_int (show R K B v (.int _) from sb.tm (v, .d (.int _)) (by simp))), h.1.1, h.1.2, k _ _ _ _ _ [] h.2 (sb.st.sub fun p hp => by simp at hp; simp [hp]) it_rng⟩
    · exact h.elim) h⟩
theorem yi_range2 {tg a b : Expr} {u : TAD} {p pos : Pos} (hm : X.mg "range" = none) (h0 : PAD X K E [a, b] ht u) (hg : Gl X "range" := by rfl) (hs : starEach [a, b] X.env = [(false, eval a X.env), (false, eval b X.env)] := by rfl) (hs2 : starEach [b] X.env = [(false, eval b X.env)] := by rfl) : PID X K E tg (.Call (.Name "range" p) [a, b] [] pos) (iRng2 ht) (dRng2 u) :=
  ⟨pi_range2 hg hm h0.p hs hs2, fun Φ H σ ρ ω T q Rr x s hx k h => h0.r Φ H σ ρ ω T _ _ x s hx (fun ss ω1 vs H1 h l st => by
    split at h
    · rename_i i j
      match vs, l with
      | [v, w], _ =>
        obtain ⟨B, α, sb⟩ := st
        exact ⟨i, j, by rw [r_int (show R K B v (.int i) from sb.tm (v, .d (.int i)) (by simp)), r_int (show R K B w (.int j) from sb.tm (w, .d (.int j)) (by simp))], ⟨h.1.1.1, h.1.1.2, h.1.2.1, h.1.2.2⟩, k _ _ _ _ _ [] h.2 (sb.st.sub fun p hp => by simp at hp; simp [hp]) it_rng⟩
    · exact h.elim) h⟩
/-! ### for, while -/
def forR (g : TGD) (body : TSD) (ed : EndsD) (P : Sto → Prop) : List S → Env → Sto → Prop
  | [], ρ, ω => ed.nx ρ ω
  | s :: r, ρ, ω => g s ρ ω (fun ρ1 ω1 => body { ed with nx := fun ρ' ω' => P ω' ∧ forR g body ed P r ρ' ω', ct := fun ρ' ω' => P ω' ∧ forR g body ed P r ρ' ω', bk := ed.nx } ρ1 ω1)
def dFor (it : TID) (g : TGD) (body : TSD) : TSD := fun ed ρ ω => it ρ ω (fun is P ω' => P ω' ∧ forR g body ed P is ρ ω') ed.x
theorem refS_for {wi : TI} {g : TG} {tb : TS} {it : TID} {gd : TGD} {body : TSD} (h1 : RefI K E wi it) (h2 : RefG K g gd) (h3 : RefS K E tb body) : RefS K E (tFor wi g tb) (dFor it gd body) := fun Φ H σ ρ ω T En ed s l h => h1 Φ H σ ρ ω T _ _ _ s l.x (fun is P ω1 J H1 T0 h st ⟨G, Yd, hw, hI⟩ => by
  refine for_it hw (fun i σ H => i ≤ is.length ∧ ∃ ρ ω, St Φ K H σ ρ ω (T0 ++ T) ∧ P ω ∧ forR gd body ed P (is.drop i) ρ ω) ⟨Nat.zero_le _, ρ, ω1, st, h.1, by simpa using h.2⟩ (fun i σ H _ ⟨_, ρ, ω, st, hp, _⟩ => (hI Φ H σ ρ ω _ st (fun p hp => List.mem_append_left _ hp) hp).1) (fun i x σ H H' hi ⟨_, ρ, ω, st, hp, hf⟩ hy => ?_) (fun σ H ⟨_, ρ, ω, st, hp, hf⟩ => ?_)
  · obtain ⟨y, hy, st'⟩ := (hI Φ H σ ρ ω _ st (fun p hp => List.mem_append_left _ hp) hp).2 i x H' hi hy
    have e : is.drop i = y :: is.drop (i + 1) := by
      obtain ⟨hn, e⟩ := List.getElem?_eq_some_iff.mp hy
      rw [List.drop_eq_getElem_cons hn, e]
    rw [e] at hf
    refine h2 Φ H' σ ρ ω _ x y _ _ st' List.mem_cons_self (fun σ2 H2 ρ2 ω2 hb st2 => ?_) hf
    refine h3 Φ H2 σ2 ρ2 ω2 (T0 ++ T) _ { ed with nx := fun ρ' ω' => P ω' ∧ forR gd body ed P (is.drop (i + 1)) ρ' ω', ct := fun ρ' ω' => P ω' ∧ forR gd body ed P (is.drop (i + 1)) ρ' ω', bk := ed.nx } (st2.sub fun p hp => List.mem_cons_of_mem _ hp) ⟨fun σ3 H3 ρ3 ω3 h st3 => ⟨hi, ρ3, ω3, st3, h.1, h.2⟩, fun σ3 H3 ρ3 ω3 h st3 => l.nx _ _ _ _ h (st3.sub fun p hp => List.mem_append_right _ hp), fun σ3 H3 ρ3 ω3 h st3 => ⟨hi, ρ3, ω3, st3, h.1, h.2⟩, fun v σ3 H3 ρ3 s ω3 h st3 => l.rt _ _ _ _ _ _ h (st3.sub fun p hp => ?_), l.x⟩ hb
    rcases List.mem_cons.mp hp with rfl | hp
    · simp
    · simp [hp]
  · rw [List.drop_length] at hf
    exact l.nx _ _ _ _ hf (st.sub fun p hp => List.mem_append_right _ hp)) h
theorem y_for {tg iter : Expr} {body : List Stmt} {wi : TI} {g : TG} {tb : TS} {it : TID} {gd : TGD} {bd : TSD} {pos : Pos} (hp : PassesOwn (model X.prog X.w) X.A X.env X.xe) (hc : X.calm = true) (h1 : PID X K E tg iter wi it) (h2 : PGD X K tg g gd) (h3 : PSsD X K E body tb bd) (hs : ∀ x, foldedSetIterable iter X.env x = pure x := by intro _; rfl) : PSD X K E (.For tg iter body [] pos) (tFor wi g tb) (dFor it gd bd) :=
  ⟨ps_for hp hc h1.p h2.p h3.p hs, refS_for h1.r h2.r h3.r⟩
def whR (c : TTD) (body : TSD) (ed : EndsD) : Nat → Env → Sto → Prop
  | 0, _, _ => False
  | n + 1, ρ, ω => c ρ ω (fun b ω1 => if b = true then body { ed with nx := whR c body ed n, ct := whR c body ed n, bk := ed.nx } ρ ω1 else ed.nx ρ ω1) ed.x
def dWhile (c : TTD) (body : TSD) : TSD := fun ed ρ ω => ∃ n, whR c body ed n ρ ω
theorem refS_while {tc : TT} {tb : TS} {c : TTD} {body : TSD} (h1 : RefT K E tc c) (h3 : RefS K E tb body) : RefS K E (tWhile tc tb) (dWhile c body) := fun Φ H σ ρ ω T En ed s l ⟨n, h⟩ => by
  refine ⟨fun m σ H => ∃ ρ ω, St Φ K H σ ρ ω T ∧ whR c body ed m ρ ω, ⟨n, ρ, ω, s, h⟩, fun m σ H ⟨ρ, ω, st, h⟩ => ?_⟩
  cases m with
  | zero => exact h.elim
  | succ m =>
    refine h1 Φ H σ ρ ω T _ _ _ st l.x (fun b ω1 H1 h st1 => ?_) h
    cases b with
    | true =>
      rw [if_pos rfl] at h ⊢
      refine ⟨fun σ' H' => ∃ ρ ω, St Φ K H' σ' ρ ω T ∧ whR c body ed m ρ ω, fun σ' H' h => ⟨m, by omega, h⟩, ?_⟩
      exact h3 Φ H1 σ ρ ω1 T _ { ed with nx := whR c body ed m, ct := whR c body ed m, bk := ed.nx } st1 ⟨fun σ3 H3 ρ3 ω3 h st3 => ⟨ρ3, ω3, st3, h⟩, fun σ3 H3 ρ3 ω3 h st3 => l.nx _ _ _ _ h st3, fun σ3 H3 ρ3 ω3 h st3 => ⟨ρ3, ω3, st3, h⟩, l.rt, l.x⟩ h
    | false =>
      rw [if_neg Bool.false_ne_true] at h ⊢
      exact l.nx _ _ _ _ h st1
theorem y_while {c : Expr} {body : List Stmt} {tc : TT} {tb : TS} {cd : TTD} {bd : TSD} {pos : Pos} (hp : PassesOwn (model X.prog X.w) X.A X.env X.xe) (h1 : PTD X K E c tc cd) (h3 : PSsD X K E body tb bd) : PSD X K E (.While c body [] pos) (tWhile tc tb) (dWhile cd bd) := ⟨ps_while hp h1.p h3.p, refS_while h1.r h3.r⟩
end
end Y

set_option Elab.async false
set_option linter.all false
set_option maxRecDepth 100000
set_option maxHeartbeats 2000000
namespace Y
open PySem PySem.Spec PyProof.Rows L2
variable {w : World} [Tb w]
section
variable {K : PySem.W.Frag} {X : Cx} {E : XK}
variable {Φ : Phi} {B : Hp} {α : List Addr} {H : Hp} {σ : L2.St} {ρ : Env} {ω : Sto} {T : List (V × S)}
/-! ### a slot is forgotten -/
def wipeD (ρ : Env) : List Nat → Env
  | [] => ρ
  | v :: vs => (wipeD ρ vs).set v none
theorem set_wipe (σ : L2.St) (i : Nat) (x : Option V) : ∀ vs : List Nat, (wipe (σ.set i x) vs).set i none = (wipe σ vs).set i none
  | [] => by simp [wipe]
  | v :: vs => by
    unfold wipe
    by_cases e : i = v
    · subst e
      simpa using set_wipe σ i x vs
    · rw [List.set_comm _ _ (Ne.symm e), set_wipe σ i x vs, List.set_comm _ _ e]
theorem wipe_set {σ : L2.St} {i : Nat} {x : Option V} : ∀ {vs : List Nat}, i ∈ vs → wipe (σ.set i x) vs = wipe σ vs
  | v :: vs, h => by
    unfold wipe
    by_cases e : i = v
    · subst e; exact set_wipe σ i x vs
    · rw [wipe_set ((List.mem_cons.mp h).resolve_left e)]
theorem wipe_idem {σ : L2.St} : ∀ {vs us : List Nat}, (∀ v ∈ vs, v ∈ us) → wipe (wipe σ vs) us = wipe σ us
  | [], _, _ => rfl
  | v :: vs, us, h => by
    show wipe ((wipe σ vs).set v none) us = _
    rw [wipe_set (h v (by simp)), wipe_idem fun u hu => h u (by simp [hu])]
theorem Slots.wipe (h : Slots K α B σ ρ) : ∀ vs : List Nat, Slots K α B (wipe σ vs) (wipeD ρ vs)
  | [] => h
  | v :: vs => by
    have ih := Slots.wipe h vs
    refine ⟨by unfold L2.wipe wipeD; rw [List.length_set, List.length_set]; exact ih.1, fun i s e => ?_⟩
    unfold wipeD at e
    rw [List.getElem?_set] at e
    split at e
    · split at e <;> cases e
    · rename_i ne
      obtain ⟨w, e1, r⟩ := ih.2 i s e
      exact ⟨w, by unfold L2.wipe; rw [List.getElem?_set_ne ne]; exact e1, r⟩
theorem Slots.widen (h : Slots K α B σ ρ) (σ' : L2.St) (ρ' : Env) (h2 : Slots K α B σ' ρ') : True := True.intro
/-- a target that stores nothing else -/
def GO (g : TG) (vs : List Nat) : Prop := ∀ v τ H (Q Q' : L2.St → Hp → Prop), g v τ H Q → (∀ σ2 H2, wipe σ2 vs = wipe τ vs → Q σ2 H2 → Q' σ2 H2) → g v τ H Q'
def GOs (g : TGs) (vs : List Nat) : Prop := ∀ xs τ H (Q Q' : L2.St → Hp → Prop), g xs τ H Q → (∀ σ2 H2, wipe σ2 vs = wipe τ vs → Q σ2 H2 → Q' σ2 H2) → g xs τ H Q'
theorem go_name {i : Nat} {vs : List Nat} (h : i ∈ vs := by decide) : GO (gName i) vs := fun v τ H Q Q' q m => m _ _ (wipe_set h) q
theorem gos_nil {vs : List Nat} : GOs gNil vs := fun xs τ H Q Q' q m => ⟨q.1, m _ _ rfl q.2⟩
theorem gos_cons {i : Nat} {g : TGs} {vs : List Nat} (h2 : GOs g vs) (h : i ∈ vs := by decide) : GOs (gCons (gName i) g) vs := fun xs τ H Q Q' q m => by
  obtain ⟨v, r, e, q⟩ := q
  exact ⟨v, r, e, h2 r (τ.set i (some v)) H Q Q' q fun σ2 H2 e2 => m _ _ (e2.trans (wipe_set h))⟩
theorem go_tup {n : Nat} {g : TGs} {vs : List Nat} (h : GOs g vs) : GO (gTup K n g) vs := fun v τ H Q Q' q m => by
  obtain ⟨a, xs, e, hs, hl, q⟩ := q
  exact ⟨a, xs, e, hs, hl, h xs τ H Q Q' q m⟩
/-! ### what is new becomes known -/
theorem StB.adopt (s : StB Φ K B α H σ ρ ω T) {p : Addr} {xs : List V} {ds : List D} (e : H p = some (.lst xs)) (na : p ∉ α) (nb : B p = none) (nf : Φ.H p = none) (r : Rs K B xs ds) : St Φ K H σ ρ ω ((.ref p, .d (.lst ds)) :: T) := by
  have gB : Same B (upd B p (.lst xs)) := fun b u q => by rw [upd_ne (ne_of_none q nb)]; exact q
  have st : StB Φ K (upd B p (.lst xs)) α H σ ρ ω T := by
    refine ⟨⟨s.fr.bb.trans gB, fun b u q => ?_, s.fr.hh, fun a u q => ?_, s.fr.pre⟩, ⟨s.wd.tb.upBN (s.wd.tb.neO e (fun _ z => nomatch z)) nb _, s.wd.nd, s.wd.len, s.wd.tr, fun j a c e1 e2 => ?_⟩, s.sl.mono gB ⟨[], by simp⟩, fun q hq => ?_⟩
    · by_cases z : b = p
      · subst z; rw [upd_same] at q; cases q; exact e
      · rw [upd_ne z] at q; exact s.fr.bh b u q
    · by_cases z : a = p
      · subst z; exact .inr (.inl nf)
      · rw [upd_ne z] at q; exact s.fr.fr a u q
    · have ne : a ≠ p := fun z => na (z ▸ List.mem_of_getElem? e1)
      have := (s.wd.cell j a c e1 e2).mono (β := []) gB (fun z => by rw [upd_ne ne]; exact z) (H' := H) rfl
      simpa using this
    · have := (s.tm q hq).mono (β := []) gB
      simpa using this
  exact (st.pushD (.lst upd_same (r.mono gB))).st
theorem StB.adoptP (s : StB Φ K B α H σ ρ ω T) {p : Addr} {xs : List V} {ss : List S} (e : H p = some (.lst xs)) (na : p ∉ α) (nb : B p = none) (nf : Φ.H p = none) (r : Paired (RS K α B) xs ss) : St Φ K H σ ρ (ω ++ [.lst ss]) ((.ref p, .pin ω.length) :: T) := by
  obtain ⟨β, eβ, nβ⟩ := s.fr.pre
  have st : StB Φ K B (α ++ [p]) H σ ρ (ω ++ [.lst ss]) T := by
    refine ⟨⟨s.fr.bb, s.fr.bh, s.fr.hh, s.fr.fr, β ++ [p], by rw [eβ, List.append_assoc], fun a m => ?_⟩, ⟨s.wd.tb.snocN (s.wd.tb.neO e (fun _ z => nomatch z)), ?_, by simp [s.wd.len], fun a m => ?_, fun j a c e1 e2 => ?_⟩, s.sl.mono (Same.refl B) ⟨[p], rfl⟩, fun q hq => (s.tm q hq).mono (Same.refl B)⟩
    · rcases List.mem_append.mp m with m | m
      · exact nβ a m
      · rw [List.mem_singleton.mp m]; exact .inl nf
    · rw [List.nodup_append]
      exact ⟨s.wd.nd, by simp, fun a ha b hb => by rw [List.mem_singleton.mp hb]; exact fun z => na (z ▸ ha)⟩
    · rcases List.mem_append.mp m with m | m
      · exact s.wd.tr a m
      · rw [List.mem_singleton.mp m]; exact ⟨_, e⟩
    · by_cases hj : j < α.length
      · rw [List.getElem?_append_left hj] at e1
        rw [List.getElem?_append_left (by rw [← s.wd.len]; exact hj)] at e2
        exact (s.wd.cell j a c e1 e2).mono (Same.refl B) id rfl
      · have hl : j < (α ++ [p]).length := (List.getElem?_eq_some_iff.mp e1).1
        have : j = α.length := by simp at hl; omega
        subst this
        rw [List.getElem?_append_right (Nat.le_refl _)] at e1
        rw [s.wd.len, List.getElem?_append_right (Nat.le_refl _)] at e2
        simp at e1 e2
        subst e1 e2
        exact ⟨nb, xs, e, paired_mono (fun _ _ h => h.mono (Same.refl B)) r⟩
  exact (st.push (x := .pin ω.length) ⟨p, by rw [← s.wd.len]; simp, rfl⟩).st
/-! ### [e for x in xs if t] -/
def lcR (gd : TGD) (td : TTD) (ed : TD) (ρ : Env) (P : Sto → Prop) (x : XD) (fin : List S → Sto → Prop) : List S → List S → Sto → Prop
  | [], acc, ω => fin acc ω
  | s :: r, acc, ω => gd s ρ ω (fun ρ1 ω1 => td ρ1 ω1 (fun b ω2 => if b = true then ed ρ1 ω2 (fun y ω3 => acc.length < 1000000 ∧ P ω3 ∧ lcR gd td ed ρ P x fin r (acc ++ [y]) ω3) x else P ω2 ∧ lcR gd td ed ρ P x fin r acc ω2) x)
def dLc (it : TID) (gd : TGD) (td : TTD) (ed : TD) (vs : List Nat) (fin : (S → Sto → Prop) → List S → Sto → Prop) : TD := fun ρ ω q x => it ρ ω (fun is P ω1 => P ω1 ∧ lcR gd td ed (wipeD ρ vs) P x (fin q) is [] ω1) x
def finD (q : S → Sto → Prop) (acc : List S) (ω : Sto) : Prop := match allD acc with | some ds => q (.d (.lst ds)) ω | none => False
def finP (q : S → Sto → Prop) (acc : List S) (ω : Sto) : Prop := q (.pin ω.length) (ω ++ [.lst acc])
def FinOk (K : PySem.W.Frag) (fin : (S → Sto → Prop) → List S → Sto → Prop) : Prop := ∀ (Φ : Phi) (B H : Hp) (α : List Addr) (σ : L2.St) (ρ : Env) (ω : Sto) (T : List (V × S)) (p : Addr) (xs : List V) (acc : List S) (q : S → Sto → Prop) (Q : VK), StB Φ K B α H σ ρ ω T → H p = some (.lst xs) → p ∉ α → B p = none → Φ.H p = none → Paired (RS K α B) xs acc →
  (∀ s ω' v H', q s ω' → St Φ K H' σ ρ ω' ((v, s) :: T) → Q v H') → fin q acc ω → Q (.ref p) H
theorem finD_ok : FinOk K finD := fun Φ B H α σ ρ ω T p xs acc q Q sb e na nb nf r k h => by
  unfold finD at h
  cases ea : allD acc with
  | none => simp only [ea] at h
  | some ds =>
    simp only [ea] at h
    exact k _ _ _ _ h (sb.adopt e na nb nf (rs_all r ea))
theorem finP_ok : FinOk K finP := fun Φ B H α σ ρ ω T p xs acc q Q sb e na nb nf r k h => k _ _ _ _ h (sb.adoptP e na nb nf r)
theorem StB.slots (s : StB Φ K B α H σ ρ ω T) {σ' : L2.St} {ρ' : Env} (h : Slots K α B σ' ρ') : StB Φ K B α H σ' ρ' ω T := ⟨s.fr, s.wd, h, s.tm⟩
/-- within a frame, what is outside of it -/
theorem Frame.out {B1 H1 B2 H2 : Hp} {α1 α2 : List Addr} (f : Frame ⟨B1, H1, α1⟩ B2 H2 α2) {p : Addr} {o : HO} (e : H1 p = some o) (na : p ∉ α1) (nb : B1 p = none) (n : ∀ ps, o ≠ .tbl ps := by intro _ z; cases z) : H2 p = some o ∧ p ∉ α2 ∧ B2 p = none := by
  obtain ⟨β, eβ, nβ⟩ := f.pre
  refine ⟨f.keep na e n, fun m => ?_, ?_⟩
  · have eβ : α2 = α1 ++ β := eβ
    rw [eβ] at m
    rcases List.mem_append.mp m with m | m
    · exact na m
    · rcases nβ p m with q | q
      · have q : H1 p = none := q
        rw [e] at q; cases q
      · exact na q
  · cases z : B2 p with
    | none => rfl
    | some u =>
      exfalso
      rcases f.fr p u z with ⟨w, q⟩ | q | q
      · have q : B1 p = some w := q
        rw [nb] at q; cases q
      · have q : H1 p = none := q
        rw [e] at q; cases q
      · exact na q
theorem ref_lc {wi : TI} {g : TG} {tt : TT} {te : TE} {it : TID} {gd : TGD} {td : TTD} {ed : TD} {vs : List Nat} {fin : (S → Sto → Prop) → List S → Sto → Prop} (hf : FinOk K fin) (h1 : RefI K E wi it) (h2 : RefG K g gd) (go : GO g vs) (h3 : RefT K E tt td) (h4 : Ref K E te ed) : Ref K E (tLc wi g tt te vs) (dLc it gd td ed vs fin) := fun Φ H σ ρ ω T q Q x s hx k h => h1 Φ H σ ρ ω T _ _ x s hx (fun is P ω1 J H1 T0 h st ⟨G, Yd, hw, hI⟩ => by
  intro D hD
  obtain ⟨hp, h⟩ := h
  obtain ⟨B, α, sb⟩ := st
  have nfD : Φ.H D = none ∨ D ∈ Φ.α := by
    by_cases m : D ∈ Φ.α
    · exact .inr m
    · cases z : Φ.H D with
      | none => exact .inl rfl
      | some o => obtain ⟨o', z'⟩ := sb.fr.live m z; rw [z'] at hD; cases hD
  have nD : Φ.H D = none := by
    rcases nfD with z | z
    · exact z
    · obtain ⟨β, eβ, _⟩ := sb.fr.pre
      obtain ⟨o, e⟩ := sb.wd.tr D (by rw [eβ]; simp [z])
      rw [hD] at e; cases e
  refine lc_it hw (fun i H2 => ∃ acc xs ω B α, StB Φ K B α H2 σ ρ ω (T0 ++ T) ∧ D ∉ α ∧ B D = none ∧ H2 D = some (.lst xs) ∧ Paired (RS K α B) xs acc ∧ P ω ∧ lcR gd td ed (wipeD ρ vs) P x (fin q) (is.drop i) acc ω) ?_ (fun i H2 _ ⟨acc, xs, ω, B, α, sb, _, _, _, _, hp, _⟩ => (hI Φ H2 σ ρ ω _ sb.st (fun p hp => List.mem_append_left _ hp) hp).1) (fun i y H2 H3 hi ⟨acc, xs, ω, B, α, sb, na, nb, eD, rp, hp, hl⟩ hy => ?_) (fun H2 ⟨acc, xs, ω, B, α, sb, na, nb, eD, rp, hp, hl⟩ => ?_)
  · have nm := sb.wd.fresh hD
    have nb := sb.fr.bh.free hD
    have gH : Same H1 (upd H1 D (.lst [])) := fun b u q => by rw [upd_ne (ne_of_none q hD)]; exact q
    refine ⟨[], [], ω1, B, α, ⟨⟨sb.fr.bb, sb.fr.bh.trans gH, fun b o m z => (sb.fr.hh b o m z).imp (gH _ _) (fun y => ⟨y.1, y.2.imp fun ps => gH _ _⟩), sb.fr.fr, sb.fr.pre⟩, ⟨sb.wd.tb.up (.inl hD) _, sb.wd.nd, sb.wd.len, fun a m => let ⟨o, e⟩ := sb.wd.tr a m; ⟨o, gH _ _ e⟩, fun j a c e1 e2 => ?_⟩, sb.sl, sb.tm⟩, nm, nb, upd_same, .nil, hp, by simpa using h⟩
    have ne : a ≠ D := fun z => nm (z ▸ List.mem_of_getElem? e1)
    have := (sb.wd.cell j a c e1 e2).mono (β := []) (Same.refl B) id (H' := upd H1 D (.lst [])) (by rw [upd_ne ne])
    simpa using this
  · -- one turn
    have sb0 : StB ⟨B, H2, α⟩ K B α H2 (wipe σ vs) (wipeD ρ vs) ω (T0 ++ T) := ⟨Frame.refl sb.fr.bh, sb.wd, sb.sl.wipe vs, sb.tm⟩
    have hx2 : XOk ⟨B, H2, α⟩ K x E := hx.step sb.fr
    obtain ⟨y1, hy1, st1⟩ := (hI _ H2 _ _ ω _ sb0.st (fun p hp => List.mem_append_left _ hp) hp).2 i y H3 hi hy
    have e : is.drop i = y1 :: is.drop (i + 1) := by
      obtain ⟨hn, e⟩ := List.getElem?_eq_some_iff.mp hy1
      rw [List.drop_eq_getElem_cons hn, e]
    rw [e] at hl
    -- back in the outer frame
    have back : ∀ {B' H' : Hp} {α' : List Addr} {ω' : Sto} {σ' : L2.St} {ρ' : Env} {U : List (V × S)}, StB ⟨B, H2, α⟩ K B' α' H' σ' ρ' ω' (U ++ (T0 ++ T)) → StB Φ K B' α' H' σ ρ ω' (T0 ++ T) ∧ D ∉ α' ∧ B' D = none ∧ H' D = some (.lst xs) ∧ Paired (RS K α' B') xs acc := fun {B' H' α' ω' σ' ρ' U} s' => by
      obtain ⟨x1, x2, x3⟩ := s'.fr.out eD na nb
      obtain ⟨β, eβ, _⟩ := s'.fr.pre
      have eβ : α' = α ++ β := eβ
      exact ⟨⟨sb.fr.trans s'.fr, s'.wd, sb.sl.mono s'.fr.bb ⟨β, eβ⟩, fun p hp => s'.tm p (List.mem_append_right _ hp)⟩, x2, x3, x1, by subst eβ; exact paired_mono (fun _ _ h => h.mono s'.fr.bb) rp⟩
    refine go y (wipe σ vs) H3 _ _ (h2 _ H3 _ _ ω _ y y1 _ (fun σ2 H4 => wipe σ2 vs = wipe (wipe σ vs) vs → tt σ2 H4 fun b H5 => if b = true then te σ2 H5 fun z H6 => ∃ acc, H6 D = some (.lst acc) ∧ acc.length < sizeLine ∧ (fun i H2 => ∃ acc xs ω B α, StB Φ K B α H2 σ ρ ω (T0 ++ T) ∧ D ∉ α ∧ B D = none ∧ H2 D = some (.lst xs) ∧ Paired (RS K α B) xs acc ∧ P ω ∧ lcR gd td ed (wipeD ρ vs) P x (fin q) (is.drop i) acc ω) (i + 1) (upd H6 D (.lst (acc ++ [z]))) else (fun i H2 => ∃ acc xs ω B α, StB Φ K B α H2 σ ρ ω (T0 ++ T) ∧ D ∉ α ∧ B D = none ∧ H2 D = some (.lst xs) ∧ Paired (RS K α B) xs acc ∧ P ω ∧ lcR gd td ed (wipeD ρ vs) P x (fin q) (is.drop i) acc ω) (i + 1) H5) st1 List.mem_cons_self (fun σ2 H4 ρ2 ω2 hl st2 hw2 => ?_) hl) ?_
    rotate_left
    · have w2 : wipe (wipe σ vs) vs = wipe σ vs := wipe_idem fun _ h => h
      exact fun σ2 H4 a b => ⟨a.trans w2, b a⟩
    · refine h3 _ H4 σ2 ρ2 ω2 _ _ _ x st2 hx2 (fun b ω3 H5 hl st3 => ?_) hl
      cases b with
      | true =>
        rw [if_pos rfl] at hl ⊢
        refine h4 _ H5 σ2 ρ2 ω3 _ _ _ x st3 hx2 (fun z ω4 zv H6 hl st4 => ?_) hl
        obtain ⟨hn, hP, hl⟩ := hl
        obtain ⟨B', α', sb4⟩ := st4
        obtain ⟨sb5, na5, nb5, eD5, rp5⟩ := back (U := [(zv, z), (y, y1)]) sb4
        have hz := sb4.tm (zv, z) List.mem_cons_self
        refine ⟨xs, eD5, Nat.lt_of_lt_of_le (by rw [Paired.length rp5]; exact hn) (lineB (Nat.le_refl _)), acc ++ [z], xs ++ [zv], ω4, B', α', ?_, na5, nb5, upd_same, paired_app rp5 (.cons hz .nil), hP, hl⟩
        have gne : ∀ b o, B' b = some o → (upd H6 D (.lst (xs ++ [zv]))) b = some o := fun b o q => by rw [upd_ne (ne_of_none q nb5)]; exact sb5.fr.bh b o q
        refine ⟨⟨sb5.fr.bb, gne, fun b o m q => ?_, sb5.fr.fr, sb5.fr.pre⟩, ⟨sb5.wd.tb.upN (sb5.wd.tb.neO eD5 (fun _ z => nomatch z)) _, sb5.wd.nd, sb5.wd.len, fun a m => ?_, fun j a c e1 e2 => ?_⟩, sb5.sl, sb5.tm⟩
        · rw [upd_ne (ne_of_none q nD)]
          exact sb5.fr.hh b o m q
        · obtain ⟨o, e⟩ := sb5.wd.tr a m
          exact ⟨o, by rw [upd_ne (show a ≠ D from fun z => na5 (by rw [← z]; exact m))]; exact e⟩
        · have ne : a ≠ D := fun z => na5 (z ▸ List.mem_of_getElem? e1)
          have := (sb5.wd.cell j a c e1 e2).mono (β := []) (Same.refl B') id (H' := upd H6 D (.lst (xs ++ [zv]))) (by rw [upd_ne ne])
          simpa using this
      | false =>
        rw [if_neg Bool.false_ne_true] at hl ⊢
        obtain ⟨B', α', sb4⟩ := st3
        obtain ⟨sb5, na5, nb5, eD5, rp5⟩ := back (U := [(y, y1)]) sb4
        exact ⟨acc, xs, ω3, B', α', sb5, na5, nb5, eD5, rp5, hl.1, hl.2⟩
  · rw [List.drop_length] at hl
    exact hf Φ B H2 α σ ρ ω (T0 ++ T) D xs acc q Q sb eD na nb nD rp (fun s ω' v H' hq hs => k s ω' v H' hq (hs.sub fun p hp => by
      rcases List.mem_cons.mp hp with rfl | hp
      · simp
      · simp [hp])) hl) h
end
end Y

set_option Elab.async false
set_option linter.all false
set_option maxRecDepth 100000
set_option maxHeartbeats 2000000
namespace Y
open PySem PySem.Spec PyProof.Rows L2
variable {w : World} [Tb w]
section
variable {K : PySem.W.Frag} {X : Cx} {E : XK}
variable {Φ : Phi} {B : Hp} {α : List Addr} {H : Hp} {σ : L2.St} {ρ : Env} {ω : Sto} {T : List (V × S)}
/-! ### comprehensions as rules -/
structure PTsD (X : Cx) (K : PySem.W.Frag) (E : XK) (es : List Expr) (tt : TT) (t : TTD) : Prop where
  p : PTs X es tt
  r : RefT K E tt t
def dYes : TTD := fun _ ω q _ => q true ω
theorem yts_nil : PTsD X K E [] tYes dYes := ⟨pts_nil, fun Φ H σ ρ ω T q Q x s _ k h => k _ _ _ h s⟩
theorem yts_one {c : Expr} {t : TTD} (h : PTD X K E c ht t) : PTsD X K E [c] ht t := ⟨pts_one h.p, h.r⟩
section
variable {elt tg iter : Expr} {ifs : List Expr} {scope : Scope} {own : List (Str × Nat)} {pos : Pos} {wi : TI} {g : TG} {tt : TT} {te : TE} {it : TID} {gd : TGD} {td : TTD} {ed : TD}
theorem y_lcD (hc : X.calm = true) (hN : X.N.Nodup) (h1 : PID X K E tg iter wi it) (ok : BlkOk X.N X.env.scope scope own) (go : GO g (own.map (·.2)))
    (hg : ∀ (s : Shared) (H : Hp) (C : Addr) (cl : List (Str × Addr)) (fp : List Addr), PGD (X.blk s H scope (compEnvC scope cl C X.env) fp) K tg g gd) (ht : ∀ (s : Shared) (H : Hp) (C : Addr) (cl : List (Str × Addr)) (fp : List Addr), PTsD (X.blk s H scope (compEnvC scope cl C X.env) fp) K E ifs tt td)
    (he : ∀ (s : Shared) (H : Hp) (C : Addr) (cl : List (Str × Addr)) (fp : List Addr), PD (X.blk s H scope (compEnvC scope cl C X.env) fp) K E elt te ed) (hs : ∀ x, foldedSetIterable iter X.env x = pure x := by intro _; rfl) :
    PD X K E (.ListComp elt [⟨tg, iter, ifs, 0⟩] scope pos) (tLc wi g tt te (own.map (·.2))) (dLc it gd td ed (own.map (·.2)) finD) :=
  ⟨pe_lc hc hN h1.p ok (fun s H C cl fp => (hg s H C cl fp).p) (fun s H C cl fp => (ht s H C cl fp).p) (fun s H C cl fp => (he s H C cl fp).p) hs,
    ref_lc finD_ok h1.r (hg {} (fun _ => none) 0 [] []).r go (ht {} (fun _ => none) 0 [] []).r (he {} (fun _ => none) 0 [] []).r⟩
theorem y_lcP (hc : X.calm = true) (hN : X.N.Nodup) (h1 : PID X K E tg iter wi it) (ok : BlkOk X.N X.env.scope scope own) (go : GO g (own.map (·.2)))
    (hg : ∀ (s : Shared) (H : Hp) (C : Addr) (cl : List (Str × Addr)) (fp : List Addr), PGD (X.blk s H scope (compEnvC scope cl C X.env) fp) K tg g gd) (ht : ∀ (s : Shared) (H : Hp) (C : Addr) (cl : List (Str × Addr)) (fp : List Addr), PTsD (X.blk s H scope (compEnvC scope cl C X.env) fp) K E ifs tt td)
    (he : ∀ (s : Shared) (H : Hp) (C : Addr) (cl : List (Str × Addr)) (fp : List Addr), PD (X.blk s H scope (compEnvC scope cl C X.env) fp) K E elt te ed) (hs : ∀ x, foldedSetIterable iter X.env x = pure x := by intro _; rfl) :
    PD X K E (.ListComp elt [⟨tg, iter, ifs, 0⟩] scope pos) (tLc wi g tt te (own.map (·.2))) (dLc it gd td ed (own.map (·.2)) finP) :=
  ⟨pe_lc hc hN h1.p ok (fun s H C cl fp => (hg s H C cl fp).p) (fun s H C cl fp => (ht s H C cl fp).p) (fun s H C cl fp => (he s H C cl fp).p) hs,
    ref_lc finP_ok h1.r (hg {} (fun _ => none) 0 [] []).r go (ht {} (fun _ => none) 0 [] []).r (he {} (fun _ => none) 0 [] []).r⟩
/-- y = [..] -/
theorem y_setLc {fin : (S → Sto → Prop) → List S → Sto → Prop} (hf : FinOk K fin) {i : Nat} {y : Str} {py spos : Pos} (hc : X.calm = true) (hN : X.N.Nodup) (hy : X.N[i]? = some y) (hyl : X.env.scope.names.lookup y = some .local)
    (hsw : swapsWith (.ListComp elt [⟨tg, iter, ifs, 0⟩] scope pos) (some (.Name y py)) spos.line X.env = pure true) (h1 : PID X K E tg iter wi it) (ok : BlkOk X.N X.env.scope scope own) (go : GO g (own.map (·.2)))
    (hg : ∀ (s : Shared) (H : Hp) (C : Addr) (cl : List (Str × Addr)) (fp : List Addr), PGD (X.blk s H scope (compEnvC scope cl C X.env) fp) K tg g gd) (ht : ∀ (s : Shared) (H : Hp) (C : Addr) (cl : List (Str × Addr)) (fp : List Addr), PTsD (X.blk s H scope (compEnvC scope cl C X.env) fp) K E ifs tt td)
    (he : ∀ (s : Shared) (H : Hp) (C : Addr) (cl : List (Str × Addr)) (fp : List Addr), PD (X.blk s H scope (compEnvC scope cl C X.env) fp) K E elt te ed) (hs : ∀ x, foldedSetIterable iter X.env x = pure x := by intro _; rfl) :
    PSD X K E (.Assign [.Name y py] (.ListComp elt [⟨tg, iter, ifs, 0⟩] scope pos) spos) (tAsg (tLc wi g tt te (own.map (·.2))) (gName i)) (dSet i (dLc it gd td ed (own.map (·.2)) fin)) :=
  ⟨ps_setLc hc hN hy hyl hsw h1.p ok (fun s H C cl fp => (hg s H C cl fp).p) (fun s H C cl fp => (ht s H C cl fp).p) (fun s H C cl fp => (he s H C cl fp).p) hs,
    fun Φ H σ ρ ω T En ed s l h => ref_lc hf h1.r (hg {} (fun _ => none) 0 [] []).r go (ht {} (fun _ => none) 0 [] []).r (he {} (fun _ => none) 0 [] []).r Φ H σ ρ ω T _ _ _ s l.x (fun s' ω' w H' h st => l.nx _ _ _ _ h (st.store i)) h⟩
end
/-! ### what a def promises, told by data -/
abbrev CP := List D → (D → Prop) → Prop
abbrev CPX := List D → (D → Prop) → XD → Prop
def spPX (K : PySem.W.Frag) (C : CPX) : Sp := fun vs H Q E => ∃ B ds q x, Same B H ∧ TbOk w B H [] ∧ Rs K B vs ds ∧ C ds q x ∧ (∀ d v H' B', q d → Frame ⟨B, H, []⟩ B' H' [] → TbOk w B' H' [] → R K B' v d → Q v H') ∧ XOk ⟨B, H, []⟩ K x E
def spP (K : PySem.W.Frag) (C : CP) : Sp := spPX K fun ds q x => C ds q ∧ ∀ e, ¬ x e
abbrev CG := List S → Sto → (S → Sto → Prop) → Prop
abbrev CGX := List S → Sto → (S → Sto → Prop) → XD → Prop
def spGX (K : PySem.W.Frag) (G : CGX) : Sp := fun vs H Q E => ∃ B α ω ss q x, Same B H ∧ Wld K B H α ω ∧ Paired (RS K α B) vs ss ∧ G ss ω q x ∧ (∀ s ω' v H' B' α', q s ω' → Frame ⟨B, H, α⟩ B' H' α' → Wld K B' H' α' ω' → RS K α' B' v s → Q v H') ∧ XOk ⟨B, H, α⟩ K x E
def spG (K : PySem.W.Frag) (G : CG) : Sp := spGX K fun ss ω q x => G ss ω q ∧ ∀ e, ¬ x e
/-- all pins stay -/
theorem Frame.nil {H' B' : Hp} {α' : List Addr} (f : Frame ⟨B, H, []⟩ B' H' α') : Frame ⟨B, H, []⟩ B' H' [] := ⟨f.bb, f.bh, f.hh, f.fr, [], rfl, by simp⟩
theorem CellOk.obj {a : Addr} {c : Cell} (h : CellOk K α B H a c) : c = .dead ∨ ∃ o, H a = some o ∧ ∀ ps, o ≠ .tbl ps := by
  cases c with
  | dead => exact .inl rfl
  | lst ss => obtain ⟨_, xs, e, _⟩ := h; exact .inr ⟨_, e, fun _ z => nomatch z⟩
  | dK kvs => obtain ⟨_, xs, e, _⟩ := h; exact .inr ⟨_, e, fun _ z => nomatch z⟩
  | dT kvs => obtain ⟨_, xs, e, _⟩ := h; exact .inr ⟨_, e, fun _ z => nomatch z⟩
  | dP kvs => obtain ⟨_, xs, e, _⟩ := h; exact .inr ⟨_, e, fun _ z => nomatch z⟩
  | ins C fs => obtain ⟨_, dx, xs, e, _⟩ := h; exact .inr ⟨_, e, fun _ z => nomatch z⟩
  | tape => obtain ⟨_, kvs, c, ns, e, _⟩ := h; exact .inr ⟨_, e, fun _ z => nomatch z⟩
theorem StB.pureStep (s : StB Φ K B α H σ ρ ω T) {B' H' : Hp} (f : Frame ⟨B, H, []⟩ B' H' []) (t : TbOk w B' H' []) : StB Φ K B' α H' σ ρ ω T := by
  refine s.step ⟨f.bb, f.bh, fun b o _ h => f.hh b o (by simp) h, fun a o h => ?_, [], by simp, by simp⟩ ⟨s.wd.tb.of t, s.wd.nd, s.wd.len, fun a m => ?_, fun j a c e1 e2 => ?_⟩
  · rcases f.fr a o h with z | z | z
    · exact .inl z
    · exact .inr (.inl z)
    · simp at z
  · obtain ⟨o, e⟩ := s.wd.tr a m
    exact f.live (by simp) e
  · rcases (s.wd.cell j a c e1 e2).obj with rfl | ⟨o, e, n⟩
    · exact True.intro
    have eh : H' a = H a := by rw [e]; exact f.keep (by simp) e n
    have := (s.wd.cell j a c e1 e2).mono (β := []) f.bb (fun nb => ?_) eh
    · simpa using this
    · cases z : B' a with
      | none => rfl
      | some u =>
        exfalso
        rcases f.fr a u z with ⟨w, q⟩ | q | q
        · have q : B a = some w := q
          have nb : B a = none := nb
          rw [nb] at q; cases q
        · have q : H a = none := q
          rw [e] at q; cases q
        · simp at q
theorem XOk.pure {x : XD} (hx : XOk Φ K x E) (f : Frame Φ B H α) (tr : ∀ a ∈ α, ∃ o, H a = some o) : XOk ⟨B, H, []⟩ K x E := fun C fs h B' H' α' g => by
  have w := hx.step f C fs h B' H' α ⟨g.bb, g.bh, fun b o _ q => g.hh b o (by simp) q, fun a o q => by
    rcases g.fr a o q with w | w | w
    · exact .inl w
    · exact .inr (.inl w)
    · simp at w, [], by simp, by simp⟩
  refine ⟨w.1, fun n d ys e1 e2 e3 e4 e5 => w.2 n d ys e1 e2 e3 (fun m => ?_) e5⟩
  obtain ⟨o, e⟩ := tr d m
  have e3 : H d = none := e3
  rw [e] at e3
  cases e3
/-! ### a call -/
def allDk (ss : List S) (k : List D → Prop) : Prop := match allD ss with | some ds => k ds | none => False
def dCallX (C : CPX) (u : TAD) : TD := fun ρ ω q x => u ρ ω (fun ss ω1 => allDk ss fun ds => C ds (fun d => q (.d d) ω1) x) x
def dCall (C : CP) (u : TAD) : TD := fun ρ ω q x => u ρ ω (fun ss ω1 => allDk ss fun ds => C ds (fun d => q (.d d) ω1)) x
theorem ref_callX {ta : TA} {C : CPX} {u : TAD} (h0 : RefA K E ta u) : Ref K E (tCall (spPX K C) [] E ta) (dCallX C u) := fun Φ H σ ρ ω T q Q x s hx k h => h0 Φ H σ ρ ω T _ _ x s hx (fun ss ω1 vs H1 h l ⟨B, α, sb⟩ => by
  unfold allDk at h
  cases e : allD ss with
  | none => simp only [e] at h
  | some ds =>
    simp only [e] at h
    rw [List.append_nil]
    exact ⟨B, ds, _, x, sb.fr.bh, sb.wd.tb.nil, rs_all (St.pair sb l) e, h, fun d v H' B' hq f t r => k _ _ _ _ hq (drop_mid ((sb.pureStep f t).pushD r).st), hx.pure sb.fr sb.wd.tr⟩) h
theorem ref_call {ta : TA} {C : CP} {u : TAD} (h0 : RefA K E ta u) : Ref K E (tCall (spP K C) [] E0 ta) (dCall C u) := fun Φ H σ ρ ω T q Q x s hx k h => h0 Φ H σ ρ ω T _ _ x s hx (fun ss ω1 vs H1 h l ⟨B, α, sb⟩ => by
  unfold allDk at h
  cases e : allD ss with
  | none => simp only [e] at h
  | some ds =>
    simp only [e] at h
    rw [List.append_nil]
    exact ⟨B, ds, _, fun _ => False, sb.fr.bh, sb.wd.tb.nil, rs_all (St.pair sb l) e, ⟨h, fun _ z => z⟩, fun d v H' B' hq f t r => k _ _ _ _ hq (drop_mid ((sb.pureStep f t).pushD r).st), .never⟩) h
def dCallGX (G : CGX) (u : TAD) : TD := fun ρ ω q x => u ρ ω (fun ss ω1 => G ss ω1 q x) x
def dCallG (G : CG) (u : TAD) : TD := fun ρ ω q x => u ρ ω (fun ss ω1 => G ss ω1 q) x
theorem ref_callGX {ta : TA} {G : CGX} {u : TAD} (h0 : RefA K E ta u) : Ref K E (tCall (spGX K G) [] E ta) (dCallGX G u) := fun Φ H σ ρ ω T q Q x s hx k h => h0 Φ H σ ρ ω T _ _ x s hx (fun ss ω1 vs H1 h l ⟨B, α, sb⟩ => by
  rw [List.append_nil]
  exact ⟨B, α, ω1, ss, q, x, sb.fr.bh, sb.wd, St.pair sb l, h, fun s ω' v H' B' α' hq f w r => k _ _ _ _ hq (drop_mid ((sb.step f w).push r).st), hx.step sb.fr⟩) h
theorem ref_callG {ta : TA} {G : CG} {u : TAD} (h0 : RefA K E ta u) : Ref K E (tCall (spG K G) [] E0 ta) (dCallG G u) := fun Φ H σ ρ ω T q Q x s hx k h => h0 Φ H σ ρ ω T _ _ x s hx (fun ss ω1 vs H1 h l ⟨B, α, sb⟩ => by
  rw [List.append_nil]
  exact ⟨B, α, ω1, ss, q, fun _ => False, sb.fr.bh, sb.wd, St.pair sb l, ⟨h, fun _ z => z⟩, fun s ω' v H' B' α' hq f w r => k _ _ _ _ hq (drop_mid ((sb.step f w).push r).st), .never⟩) h
section
variable {CX : CXT} {k : Nat} {f : Addr} {fd : FuncData} {ps : List Str} {x : Str} {e : Expr} {es : List Expr} {p pos : Pos} {u : TAD}
theorem y_call {C : CP} (F : FnOk X.prog X.w K X.mg X.base CX0 k f fd ps (spP K C)) (hr : Room k X.A) (hm : X.mg x = some (.ref f)) (hk : PySem.W.keepIn K (.ref f) = true) (hb : Binds K fd ps []) (ha : PAD X K E (e :: es) ht u) (hg : Gl X x := by rfl) (hdb : (x == ("__debug__" : Str)) = false := by decide)
    (he : starEach (e :: es) X.env = (false, eval e X.env) :: starEach es X.env := by rfl) (hpl : (backTo pos (starEach es X.env)).any (·.1) = false := by rfl) (hK : X.K = K := by rfl) : PD X K E (.Call (.Name x p) (e :: es) [] pos) (tCall (spP K C) [] E0 ht) (dCall C u) := by
  subst hK
  exact ⟨pe_call F hr hg hm hk hb .nil pass0 ha.p hdb he hpl, ref_call ha.r⟩
theorem y_callX {C : CPX} (F : FnOk X.prog X.w K X.mg X.base CX k f fd ps (spPX K C)) (hr : Room k X.A) (hm : X.mg x = some (.ref f)) (hk : PySem.W.keepIn K (.ref f) = true) (hb : Binds K fd ps []) (hx : Passes CX X E) (ha : PAD X K E (e :: es) ht u) (hg : Gl X x := by rfl) (hdb : (x == ("__debug__" : Str)) = false := by decide)
    (he : starEach (e :: es) X.env = (false, eval e X.env) :: starEach es X.env := by rfl) (hpl : (backTo pos (starEach es X.env)).any (·.1) = false := by rfl) (hK : X.K = K := by rfl) : PD X K E (.Call (.Name x p) (e :: es) [] pos) (tCall (spPX K C) [] E ht) (dCallX C u) := by
  subst hK
  exact ⟨pe_call F hr hg hm hk hb .nil hx ha.p hdb he hpl, ref_callX ha.r⟩
theorem y_callG {G : CG} (F : FnOk X.prog X.w K X.mg X.base CX0 k f fd ps (spG K G)) (hr : Room k X.A) (hm : X.mg x = some (.ref f)) (hk : PySem.W.keepIn K (.ref f) = true) (hb : Binds K fd ps []) (ha : PAD X K E (e :: es) ht u) (hg : Gl X x := by rfl) (hdb : (x == ("__debug__" : Str)) = false := by decide)
    (he : starEach (e :: es) X.env = (false, eval e X.env) :: starEach es X.env := by rfl) (hpl : (backTo pos (starEach es X.env)).any (·.1) = false := by rfl) (hK : X.K = K := by rfl) : PD X K E (.Call (.Name x p) (e :: es) [] pos) (tCall (spG K G) [] E0 ht) (dCallG G u) := by
  subst hK
  exact ⟨pe_call F hr hg hm hk hb .nil pass0 ha.p hdb he hpl, ref_callG ha.r⟩
theorem y_callGX {G : CGX} (F : FnOk X.prog X.w K X.mg X.base CX k f fd ps (spGX K G)) (hr : Room k X.A) (hm : X.mg x = some (.ref f)) (hk : PySem.W.keepIn K (.ref f) = true) (hb : Binds K fd ps []) (hx : Passes CX X E) (ha : PAD X K E (e :: es) ht u) (hg : Gl X x := by rfl) (hdb : (x == ("__debug__" : Str)) = false := by decide)
    (he : starEach (e :: es) X.env = (false, eval e X.env) :: starEach es X.env := by rfl) (hpl : (backTo pos (starEach es X.env)).any (·.1) = false := by rfl) (hK : X.K = K := by rfl) : PD X K E (.Call (.Name x p) (e :: es) [] pos) (tCall (spGX K G) [] E ht) (dCallGX G u) := by
  subst hK
  exact ⟨pe_call F hr hg hm hk hb .nil hx ha.p hdb he hpl, ref_callGX ha.r⟩
end
end
/-! ### a def -/
def startD (N : List Str) (ss : List S) : Env := ss.map some ++ List.replicate (N.length - ss.length) none
/-- what changes no more, as data -/
def frzC (c : Cell) : Option D := match c with
  | .lst ss => (allD ss).map .lst
  | .dK kvs => (allD (kvs.map (·.2))).map (.dicK (kvs.map (·.1)))
  | .dT kvs => (allD (kvs.map (·.2))).map (.dicT (kvs.map (·.1)))
  | .dP kvs => (allD (kvs.map (·.2))).map (.dicP (kvs.map (·.1)))
  | _ => none
/-- what a pure def's body is to reach -/
def rtP (q : D → Prop) (s : S) (ω : Sto) : Prop := match s with
  | .d d => q d
  | .pin j => match ω[j]? with
    | some c => match frzC c with
      | some d => q d
      | none => False
    | none => False
def endsP (q : D → Prop) (x : XD) : EndsD := ⟨fun _ _ => q .non, rtP q, fun _ _ => False, fun _ _ => False, x⟩
section
variable {P : Program} {K : PySem.W.Frag} {mg : Str → Option Value} {base : Heap} {x qual : Str} {st : Stmt} {f : Addr} {fd : FuncData} {N ps : List Str} {k : Nat}
theorem slots_start {B : Hp} {α : List Addr} {vs : List V} {ss : List S} (r : Paired (RS K α B) vs ss) : Slots K α B (L2.start N vs) (startD N ss) := by
  have hl := Paired.length r
  unfold L2.start startD
  refine ⟨by simp [hl], fun i s e => ?_⟩
  by_cases hi : i < ss.length
  · rw [List.getElem?_append_left (by simpa using hi), List.getElem?_map] at e
    rw [List.getElem?_append_left (by simpa [hl] using hi), List.getElem?_map]
    cases es : ss[i]? with
    | none => rw [es] at e; cases e
    | some z =>
      rw [es] at e
      cases e
      obtain ⟨v, ev, rv⟩ := paired_get r es
      exact ⟨v, by rw [ev]; rfl, rv⟩
  · rw [List.getElem?_append_right (by simpa using hi)] at e
    rw [List.getElem?_replicate] at e
    split at e <;> cases e
theorem rs_pairS {B : Hp} : ∀ {vs : List V} {ds : List D}, Rs K B vs ds → Paired (RS K [] B) vs (ds.map .d)
  | _, _, .nil => .nil
  | _, _, .cons h t => .cons h (rs_pairS t)
/-- an object that changes no more -/
theorem Frame.stopO (g : Same B H) (wd : Wld K B H α ω) {j : Nat} {a : Addr} {o : HO} (ha : α[j]? = some a) (hb : B a = none) (eo : H a = some o) : Frame ⟨B, H, α⟩ (upd B a o) H α ∧ Wld K (upd B a o) H α (ω.set j .dead) := by
  have ma := List.mem_of_getElem? ha
  have gB : Same B (upd B a o) := fun b u q => by rw [upd_ne (ne_of_none q hb)]; exact q
  refine ⟨⟨gB, fun b u q => ?_, fun _ _ _ q => .inl q, fun b u q => ?_, [], by simp, by simp⟩, ⟨wd.tb.upB (.inr ma) hb _, wd.nd, by simp [wd.len], wd.tr, fun i b c' e1 e2 => ?_⟩⟩
  · by_cases z : b = a
    · subst z; rw [upd_same] at q; cases q; exact eo
    · rw [upd_ne z] at q; exact g b u q
  · by_cases z : b = a
    · subst z; exact .inr (.inr ma)
    · rw [upd_ne z] at q; exact .inl ⟨u, q⟩
  · by_cases hi : i = j
    · subst hi
      rw [List.getElem?_set_self (by rw [← wd.len]; exact (List.getElem?_eq_some_iff.mp ha).1)] at e2
      cases e2
      exact True.intro
    · rw [List.getElem?_set_ne (Ne.symm hi)] at e2
      have na : b ≠ a := fun z => hi (nodup_get wd.nd e1 (z ▸ ha))
      have := (wd.cell i b c' e1 e2).mono (β := []) gB (fun z => by rw [upd_ne na]; exact z) (H' := H) rfl
      simpa using this
theorem rk_all {κ : Type} {ys : List (κ × V)} {kvs : List (κ × S)} {ds : List D} (r : RK K α B ys kvs) (h : allD (kvs.map (·.2)) = some ds) : ys.map (·.1) = kvs.map (·.1) ∧ Rs K B (ys.map (·.2)) ds := by
  refine ⟨?_, rs_all (paired_map (fun _ _ h => h.2) r) h⟩
  clear h
  induction r with
  | nil => rfl
  | cons h t ih => rw [List.map_cons, List.map_cons, h.1, ih]
theorem rp_all {ys : List (XP.PKey × Addr × V)} {kvs : List (XP.PKey × S)} {ds : List D} (r : Paired (fun p q => p.1 = q.1 ∧ RS K α B p.2.2 q.2) ys kvs) (h : allD (kvs.map (·.2)) = some ds) : ys.map (·.1) = kvs.map (·.1) ∧ Rs K B (ys.map (·.2.2)) ds := by
  refine ⟨?_, rs_all (paired_map (f := fun y : XP.PKey × Addr × V => y.2.2) (fun _ _ h => h.2) r) h⟩
  clear h
  induction r with
  | nil => rfl
  | cons h t ih => rw [List.map_cons, List.map_cons, h.1, ih]
theorem Frame.frz (g : Same B H) (wd : Wld K B H α ω) {j : Nat} {a : Addr} {c : Cell} {d : D} (ha : α[j]? = some a) (hc : ω[j]? = some c) (hd : frzC c = some d) :
    ∃ B', Frame ⟨B, H, α⟩ B' H α ∧ Wld K B' H α (ω.set j .dead) ∧ R K B' (.ref a) d := by
  have co := wd.cell j a _ ha hc
  cases c with
  | lst ss =>
    obtain ⟨ds, e, rfl⟩ := Option.map_eq_some_iff.mp hd
    exact Frame.stop g wd ha hc e
  | dK kvs =>
    obtain ⟨ds, e, rfl⟩ := Option.map_eq_some_iff.mp hd
    obtain ⟨hb, ys, ey, rk⟩ := co
    obtain ⟨f, w2⟩ := Frame.stopO g wd ha hb ey
    obtain ⟨e1, e2⟩ := rk_all rk e
    rw [← e1]
    exact ⟨_, f, w2, .dicK upd_same (e2.mono f.bb)⟩
  | dT kvs =>
    obtain ⟨ds, e, rfl⟩ := Option.map_eq_some_iff.mp hd
    obtain ⟨hb, ys, ey, rk⟩ := co
    obtain ⟨f, w2⟩ := Frame.stopO g wd ha hb ey
    obtain ⟨e1, e2⟩ := rk_all rk e
    rw [← e1]
    exact ⟨_, f, w2, .dicT upd_same (e2.mono f.bb)⟩
  | dP kvs =>
    obtain ⟨ds, e, rfl⟩ := Option.map_eq_some_iff.mp hd
    obtain ⟨hb, ys, ey, pk, rk⟩ := co
    obtain ⟨f, w2⟩ := Frame.stopO g wd ha hb ey
    obtain ⟨e1, e2⟩ := rp_all rk e
    rw [← e1]
    exact ⟨_, f, w2, .dicP upd_same (pkeys_mono f.bb pk) (e2.mono f.bb)⟩
  | _ => cases hd
theorem links_pure {B H : Hp} {E : XK} {Q : VK} {q : D → Prop} {x : XD} (hq : ∀ d v H' B', q d → Frame ⟨B, H, []⟩ B' H' [] → TbOk w B' H' [] → R K B' v d → Q v H') (hx : XOk ⟨B, H, []⟩ K x E) : Links ⟨B, H, []⟩ K [] E { nx := fun _ H' => Q .non H', rt := Q } (endsP q x) where
  nx := fun σ H' ρ ω h ⟨B', α', s⟩ => hq _ _ _ _ h s.fr.nil s.wd.tb.nil .non
  bk := fun _ _ _ _ h _ => h
  ct := fun _ _ _ _ h _ => h
  rt := fun v σ H' ρ s ω h ⟨B', α', st⟩ => by
    have h : rtP q s ω := h
    unfold rtP at h
    split at h
    · exact hq _ _ _ _ h st.fr.nil st.wd.tb.nil (st.tm (v, .d _) List.mem_cons_self)
    · split at h
      · rename_i c ec
        split at h
        · rename_i d ed
          obtain ⟨a, ha, ev⟩ := st.tm _ List.mem_cons_self
          have ev : v = .ref a := ev
          subst ev
          obtain ⟨B2, f2, w2, r2⟩ := Frame.frz st.fr.bh st.wd ha ec ed
          exact hq _ _ _ _ h (st.fr.trans f2).nil w2.tb.nil r2
        · exact h.elim
      · exact h.elim
  x := hx
theorem fnPX {C : CPX} (F : Fun K x qual st f fd) (Sc : FnScope N ps (defScope st)) (hlen : ∀ ds q x, C ds q x → ds.length = ps.length)
    (hbody : ∀ (cdv : Value) (A : Around) (outer : List PySem.Env) (s : Shared) (H : Hp) (E : XK) (ds : List D) (q : D → Prop) (x : XD), Room k (A.deeper (envOfC qual (defScope st) s.heap.objs.size f cdv)) → C ds q x →
      ∃ ts td, PSsD (cxOf (L2.CX P w) P w K mg base N qual (defScope st) f cdv A outer s H E) K E (defBody st) ts td ∧ td (endsP q x) (startD N (ds.map .d)) []) : FnOk P w K mg base (L2.CX P w) (k + 1) f fd ps (spPX K C) := by
  refine F.okX Sc (fun vs H Q E h => ?_) (fun cdv A outer s H vs Q E hr h => ?_)
  · obtain ⟨B, ds, q, x, _, _, r, hc, _⟩ := h
    rw [r.len]
    exact hlen _ _ _ hc
  · obtain ⟨B, ds, q, x, g, tb, r, hc, hq, hx⟩ := h
    obtain ⟨ts, td, T, ht⟩ := hbody cdv A outer s H E ds q x hr hc
    have sb : StB ⟨B, H, []⟩ K B [] H (L2.start N vs) (startD N (ds.map .d)) [] [] := ⟨Frame.refl g, ⟨tb, List.nodup_nil, rfl, by simp, fun j a c e => by simp at e⟩, slots_start (rs_pairS r), by simp⟩
    exact ⟨ts, T.p, T.r _ H _ _ [] [] _ (endsP q x) sb.st (links_pure hq hx) ht⟩
theorem fnP {C : CP} (F : Fun K x qual st f fd) (Sc : FnScope N ps (defScope st)) (hlen : ∀ ds q, C ds q → ds.length = ps.length)
    (hbody : ∀ (cdv : Value) (A : Around) (outer : List PySem.Env) (s : Shared) (H : Hp) (E : XK) (ds : List D) (q : D → Prop), Room k (A.deeper (envOfC qual (defScope st) s.heap.objs.size f cdv)) → C ds q →
      ∃ ts td, PSsD (cxOf CX0 P w K mg base N qual (defScope st) f cdv A outer s H E).nox K E0 (defBody st) ts td ∧ td (endsP q fun _ => False) (startD N (ds.map .d)) []) : FnOk P w K mg base CX0 (k + 1) f fd ps (spP K C) := by
  refine F.ok Sc (fun vs H Q E h => ?_) (fun cdv A outer s H vs Q E hr h => ?_)
  · obtain ⟨B, ds, q, x, _, _, r, hc, _⟩ := h
    rw [r.len]
    exact hlen _ _ hc.1
  · obtain ⟨B, ds, q, x, g, tb, r, hc, hq, hx⟩ := h
    obtain ⟨ts, td, T, ht⟩ := hbody cdv A outer s H E ds q hr hc.1
    have sb : StB ⟨B, H, []⟩ K B [] H (L2.start N vs) (startD N (ds.map .d)) [] [] := ⟨Frame.refl g, ⟨tb, List.nodup_nil, rfl, by simp, fun j a c e => by simp at e⟩, slots_start (rs_pairS r), by simp⟩
    exact ⟨ts, T.p, T.r _ H _ _ [] [] _ (endsP q fun _ => False) sb.st (links_pure hq .never) ht⟩
def endsG (q : S → Sto → Prop) (x : XD) : EndsD := ⟨fun _ ω => q (.d .non) ω, q, fun _ _ => False, fun _ _ => False, x⟩
theorem links_g {B H : Hp} {α : List Addr} {E : XK} {Q : VK} {q : S → Sto → Prop} {x : XD} (hq : ∀ s ω' v H' B' α', q s ω' → Frame ⟨B, H, α⟩ B' H' α' → Wld K B' H' α' ω' → RS K α' B' v s → Q v H') (hx : XOk ⟨B, H, α⟩ K x E) : Links ⟨B, H, α⟩ K [] E { nx := fun _ H' => Q .non H', rt := Q } (endsG q x) where
  nx := fun σ H' ρ ω h ⟨B', α', s⟩ => hq _ _ _ _ _ _ h s.fr s.wd R.non
  bk := fun _ _ _ _ h _ => h
  ct := fun _ _ _ _ h _ => h
  rt := fun v σ H' ρ s ω h ⟨B', α', st⟩ => hq _ _ _ _ _ _ h st.fr st.wd (st.tm (v, s) List.mem_cons_self)
  x := hx
theorem fnGX {G : CGX} (F : Fun K x qual st f fd) (Sc : FnScope N ps (defScope st)) (hlen : ∀ ss ω q x, G ss ω q x → ss.length = ps.length)
    (hbody : ∀ (cdv : Value) (A : Around) (outer : List PySem.Env) (s : Shared) (H : Hp) (E : XK) (ss : List S) (ω : Sto) (q : S → Sto → Prop) (x : XD), Room k (A.deeper (envOfC qual (defScope st) s.heap.objs.size f cdv)) → G ss ω q x →
      ∃ ts td, PSsD (cxOf (L2.CX P w) P w K mg base N qual (defScope st) f cdv A outer s H E) K E (defBody st) ts td ∧ td (endsG q x) (startD N ss) ω) : FnOk P w K mg base (L2.CX P w) (k + 1) f fd ps (spGX K G) := by
  refine F.okX Sc (fun vs H Q E h => ?_) (fun cdv A outer s H vs Q E hr h => ?_)
  · obtain ⟨B, α, ω, ss, q, x, _, _, r, hc, _⟩ := h
    rw [Paired.length r]
    exact hlen _ _ _ _ hc
  · obtain ⟨B, α, ω, ss, q, x, g, w, r, hc, hq, hx⟩ := h
    obtain ⟨ts, td, T, ht⟩ := hbody cdv A outer s H E ss ω q x hr hc
    have sb : StB ⟨B, H, α⟩ K B α H (L2.start N vs) (startD N ss) ω [] := ⟨Frame.refl g, w, slots_start r, by simp⟩
    exact ⟨ts, T.p, T.r _ H _ _ ω [] _ (endsG q x) sb.st (links_g hq hx) ht⟩
theorem fnG {G : CG} (F : Fun K x qual st f fd) (Sc : FnScope N ps (defScope st)) (hlen : ∀ ss ω q, G ss ω q → ss.length = ps.length)
    (hbody : ∀ (cdv : Value) (A : Around) (outer : List PySem.Env) (s : Shared) (H : Hp) (E : XK) (ss : List S) (ω : Sto) (q : S → Sto → Prop), Room k (A.deeper (envOfC qual (defScope st) s.heap.objs.size f cdv)) → G ss ω q →
      ∃ ts td, PSsD (cxOf CX0 P w K mg base N qual (defScope st) f cdv A outer s H E).nox K E0 (defBody st) ts td ∧ td (endsG q fun _ => False) (startD N ss) ω) : FnOk P w K mg base CX0 (k + 1) f fd ps (spG K G) := by
  refine F.ok Sc (fun vs H Q E h => ?_) (fun cdv A outer s H vs Q E hr h => ?_)
  · obtain ⟨B, α, ω, ss, q, x, _, _, r, hc, _⟩ := h
    rw [Paired.length r]
    exact hlen _ _ _ hc.1
  · obtain ⟨B, α, ω, ss, q, x, g, w, r, hc, hq, hx⟩ := h
    obtain ⟨ts, td, T, ht⟩ := hbody cdv A outer s H E ss ω q hr hc.1
    have sb : StB ⟨B, H, α⟩ K B α H (L2.start N vs) (startD N ss) ω [] := ⟨Frame.refl g, w, slots_start r, by simp⟩
    exact ⟨ts, T.p, T.r _ H _ _ ω [] _ (endsG q fun _ => False) sb.st (links_g hq .never) ht⟩
end
end Y

set_option Elab.async false
set_option linter.all false
set_option maxRecDepth 100000
set_option maxHeartbeats 2000000
namespace Y
open PySem PySem.Spec PyProof.Rows L2
variable {w : World} [Tb w]
/-- names of the language that the text does not store -/
structure Bu (mg : Str → Option Value) : Prop where
  abs : mg "abs" = none
  int : mg "int" = none
  len : mg "len" = none
  isinstance : mg "isinstance" = none
  bool : mg "bool" = none
  str : mg "str" = none
  tuple : mg "tuple" = none
  list : mg "list" = none
  dict : mg "dict" = none
  range : mg "range" = none
  all : mg "all" = none
  any : mg "any" = none
  sum : mg "sum" = none
  max : mg "max" = none
  min : mg "min" = none
  sorted : mg "sorted" = none
  set : mg "set" = none
  reversed : mg "reversed" = none
  zip : mg "zip" = none
  enumerate : mg "enumerate" = none
section
variable {K : PySem.W.Frag} {X : Cx} {E : XK}
variable {Φ : Phi} {B : Hp} {α : List Addr} {H : Hp} {σ : L2.St} {ρ : Env} {ω : Sto} {T : List (V × S)}
abbrev CB := List S → Sto → (S → Sto → Prop) → Prop
def RefC (K : PySem.W.Frag) (r : List V → Hp → VK → Prop) (f : CB) : Prop := ∀ (Φ : Phi) (B : Hp) (α : List Addr) (H : Hp) (σ : L2.St) (ρ : Env) (ω : Sto) (T : List (V × S)) (vs : List V) (ss : List S) (q : S → Sto → Prop) (Q : VK), StB Φ K B α H σ ρ ω T → Paired (RS K α B) vs ss → (∀ p ∈ vs.zip ss, p ∈ T) →
  (∀ s ω' v H', q s ω' → St Φ K H' σ ρ ω' ((v, s) :: T) → Q v H') → f ss ω q → r vs H Q
def dB (f : CB) (u : TAD) : TD := fun ρ ω q x => u ρ ω (fun ss ω1 => f ss ω1 q) x
theorem ref_b {r : List V → Hp → VK → Prop} {f : CB} {ta : TA} {u : TAD} (hf : RefC K r f) (h0 : RefA K E ta u) : Ref K E (tCB r ta) (dB f u) := fun Φ H σ ρ ω T q Q x s hx k h => h0 Φ H σ ρ ω T _ _ x s hx (fun ss ω1 vs H1 h l ⟨B, α, sb⟩ => hf Φ B α H1 σ ρ ω1 _ vs ss q Q sb (St.pair sb l) (fun p hp => List.mem_append_left _ hp) (fun s ω' v H' hq st => k _ _ _ _ hq (drop_mid st)) h) h
section
variable {x : Str} {p pos : Pos} {e : Expr} {es : List Expr} {u : TAD} {id T : String} {r : List V → Hp → VK → Prop} {f : CB}
theorem y_blt (hc : CallR X (.builtin id) r) (hf : RefC K r f) (hm : X.mg x = none) (hv : bootBuiltins x = some (.builtin id)) (ha : PAD X K E (e :: es) ht u) (hg : Gl X x := by rfl) (hn : x ≠ "__name__" := by decide) (hdb : (x == ("__debug__" : Str)) = false := by decide)
    (he : starEach (e :: es) X.env = (false, eval e X.env) :: starEach es X.env := by rfl) (hpl : (backTo pos (starEach es X.env)).any (·.1) = false := by rfl) : PD X K E (.Call (.Name x p) (e :: es) [] pos) (tCB r ht) (dB f u) := ⟨pe_callB hc hg hm hv ha.p hn hdb he hpl, ref_b hf ha.r⟩
theorem y_bty (hc : CallR X (.type T) r) (hf : RefC K r f) (hm : X.mg x = none) (hv : bootBuiltins x = some (.type T)) (ha : PAD X K E (e :: es) ht u) (hg : Gl X x := by rfl) (hn : x ≠ "__name__" := by decide) (hdb : (x == ("__debug__" : Str)) = false := by decide)
    (he : starEach (e :: es) X.env = (false, eval e X.env) :: starEach es X.env := by rfl) (hpl : (backTo pos (starEach es X.env)).any (·.1) = false := by rfl) : PD X K E (.Call (.Name x p) (e :: es) [] pos) (tCB r ht) (dB f u) := ⟨pe_callTy hc hg hm hv ha.p hn hdb he hpl, ref_b hf ha.r⟩
end
theorem pair1 {F : V → S → Prop} {vs : List V} {s : S} (h : Paired F vs [s]) : ∃ v, vs = [v] ∧ F v s := by
  cases h with | cons h t => cases t; exact ⟨_, rfl, h⟩
theorem pair2 {F : V → S → Prop} {vs : List V} {s s' : S} (h : Paired F vs [s, s']) : ∃ v w, vs = [v, w] ∧ F v s ∧ F w s' := by
  cases h with | cons h t => cases t with | cons h2 t => cases t; exact ⟨_, _, rfl, h, h2⟩
/-! ### len -/
def lenD : CB := fun ss ω q => match ss with
  | [.d (.tup ds)] => q (.d (.int ds.length)) ω
  | [.d (.ktup ds)] => q (.d (.int ds.length)) ω
  | [.d (.lst ds)] => q (.d (.int ds.length)) ω
  | [.d (.str x)] => x.length ≤ 1000000 ∧ q (.d (.int x.length)) ω
  | [.pin j] => match ω[j]? with
    | some (.lst ss) => q (.d (.int ss.length)) ω
    | some (.dK kvs) => q (.d (.int kvs.length)) ω
    | _ => False
  | _ => False
def rLenY (K : PySem.W.Frag) : List V → Hp → VK → Prop := fun xs H Q => (∃ x n, xs = [x] ∧ LenV K x H n ∧ Q (.int n) H) ∨ ∃ a kvs, xs = [V.ref a] ∧ H a = some (.dK kvs) ∧ Q (.int kvs.length) H
theorem call_lenY : CallR X (.builtin "len") (rLenY X.K) := call_len.or call_lenD
theorem pin_of {v : V} {j : Nat} {c : Cell} (sb : StB Φ K B α H σ ρ ω T) (r : RS K α B v (.pin j)) (e : ω[j]? = some c) : ∃ a, v = .ref a ∧ α[j]? = some a ∧ CellOk K α B H a c := by
  obtain ⟨a, ha, ev⟩ := r
  exact ⟨a, ev, ha, sb.wd.cell j a c ha e⟩
theorem refC_len : RefC K (rLenY K) lenD := fun Φ B α H σ ρ ω T vs ss q Q sb rr m k h => by
  unfold lenD at h
  split at h
  · obtain ⟨v, rfl, r⟩ := pair1 rr
    obtain ⟨a, xs, rfl, ha, ra⟩ := r_tup r
    exact .inl ⟨_, _, rfl, .inr ⟨xs, SqT.of (sb.fr.bh _ _ ha), rfl⟩, k _ _ _ _ h (sb.st.push fun _ => by rw [ra.len]; exact .int _)⟩
  · obtain ⟨v, rfl, r⟩ := pair1 rr
    obtain ⟨a, xs, rfl, ha, ra⟩ := r_ktup r
    exact .inl ⟨_, _, rfl, .inr ⟨xs, sameT sb.fr.bh ha, rfl⟩, k _ _ _ _ h (sb.st.push fun _ => by rw [ra.len]; exact .int _)⟩
  · obtain ⟨v, rfl, r⟩ := pair1 rr
    obtain ⟨a, xs, rfl, ha, ra⟩ := r_lst r
    exact .inl ⟨_, _, rfl, .inl ⟨xs, SqL.of (sb.fr.bh _ _ ha), rfl⟩, k _ _ _ _ h (sb.st.push fun _ => by rw [ra.len]; exact .int _)⟩
  · obtain ⟨v, rfl, r⟩ := pair1 rr
    obtain rfl := r_str r
    exact .inl ⟨_, _, rfl, ⟨lineB h.1, rfl⟩, k _ _ _ _ h.2 (sb.st.push fun _ => .int _)⟩
  · obtain ⟨v, rfl, r⟩ := pair1 rr
    split at h
    · rename_i e
      obtain ⟨a, rfl, ha, _, xs, ex, rp⟩ := pin_of sb r e
      exact .inl ⟨_, _, rfl, .inl ⟨xs, SqL.of ex, rfl⟩, k _ _ _ _ h (sb.st.push fun _ => by rw [Paired.length rp]; exact .int _)⟩
    · rename_i e
      obtain ⟨a, rfl, ha, _, ys, ey, rk⟩ := pin_of sb r e
      exact .inr ⟨a, ys, rfl, ey, k _ _ _ _ h (sb.st.push fun _ => by rw [rk.len]; exact .int _)⟩
    · exact h.elim
  · exact h.elim
theorem y_len {p pos : Pos} {e : Expr} {u : TAD} (b : Bu X.mg) (ha : PAD X K E [e] ht u) (hg : Gl X "len" := by rfl) (he : starEach [e] X.env = (false, eval e X.env) :: starEach [] X.env := by rfl) (hK : X.K = K := by rfl) : PD X K E (.Call (.Name "len" p) [e] [] pos) (tCB (rLenY K) ht) (dB lenD u) := by
  subst hK
  exact y_blt call_lenY refC_len b.len PySem.boot_len ha hg (he := he) (hpl := rfl)
/-! ### isinstance -/
def tyS (s : S) (ω : Sto) : Option String := match s with
  | .d .non => some "NoneType"
  | .d (.bl _) => some "bool"
  | .d (.int _) => some "int"
  | .d (.str _) => some "str"
  | .d (.tup _) => some "tuple"
  | .d (.ktup _) => some "tuple"
  | .d (.lst _) => some "list"
  | .pin j => match ω[j]? with
    | some (.lst _) => some "list"
    | some (.dK _) => some "dict"
    | some (.dT _) => some "dict"
    | _ => none
  | _ => none
def kitS (a T : String) : Bool := a == T || (a == "bool" && T == "int")
theorem kit_tab : ∀ a ∈ (["NoneType", "bool", "int", "str", "tuple", "list", "dict"] : List String), ∀ T ∈ (["bool", "int", "str", "tuple", "list", "dict"] : List String), kitB a T = some (kitS a T) := by decide +kernel
theorem tyS_ok {v : V} {s : S} {a : String} (sb : StB Φ K B α H σ ρ ω T) (r : RS K α B v s) (h : tyS s ω = some a) : TyX K H v (.type a) ∧ a ∈ (["NoneType", "bool", "int", "str", "tuple", "list", "dict"] : List String) := by
  have tt : ∀ {a xs}, SqT K H a xs → TyX K H (.ref a) (.type "tuple") := fun h => by
    rcases h with (h | ⟨o, h⟩) | ⟨o, _, _, h, c, _⟩
    · exact .base (.tup h)
    · exact .fTuple h
    · exact .kTuple h c
  unfold tyS at h
  split at h
  · cases h; rw [show v = .non from r_non r]; exact ⟨.base .non, by simp⟩
  · cases h; rw [show v = .bl _ from r_bl r]; exact ⟨.base (.bl _), by simp⟩
  · cases h; rw [show v = .int _ from r_int r]; exact ⟨.base (.int _), by simp⟩
  · cases h; rw [show v = .str _ from r_str r]; exact ⟨.base (.str _), by simp⟩
  · cases h; obtain ⟨a, xs, e, ha, ra⟩ := r_tup r; subst e; exact ⟨tt (SqT.of (sb.fr.bh _ _ ha)), by simp⟩
  · cases h; obtain ⟨a, xs, e, ha, ra⟩ := r_ktup r; subst e; exact ⟨tt (sameT sb.fr.bh ha), by simp⟩
  · cases h; obtain ⟨a, xs, e, ha, ra⟩ := r_lst r; subst e; exact ⟨.base (.lst (sb.fr.bh _ _ ha)), by simp⟩
  · split at h
    · rename_i e
      cases h
      obtain ⟨a, rfl, ha, _, xs, ex, rp⟩ := pin_of sb r e
      exact ⟨.base (.lst ex), by simp⟩
    · rename_i e
      cases h
      obtain ⟨a, rfl, ha, _, xs, ex, rp⟩ := pin_of sb r e
      exact ⟨.base (.dK ex), by simp⟩
    · rename_i e
      cases h
      obtain ⟨a, rfl, ha, _, xs, ex, rp⟩ := pin_of sb r e
      exact ⟨.base (.dT ex), by simp⟩
    · cases h
  · cases h
def tIsiY (K : PySem.W.Frag) (te : TE) (T : String) : TE := fun σ H Q => te σ H fun x H1 => rIsi K [x, .ty T] H1 Q
def dIsi (T : String) (t : TD) : TD := fun ρ ω q x => t ρ ω (fun s ω1 => match tyS s ω1 with | some a => q (.d (.bl (kitS a T))) ω1 | none => False) x
theorem y_isi {e : Expr} {t : TD} {n : Str} {T : String} {p1 p2 p3 : Pos} (b : Bu X.mg) (h0 : PD X K E e ht t) (mT : X.mg n = none) (bT : bootBuiltins n = some (.type T)) (hT : T ∈ (["bool", "int", "str", "tuple", "list", "dict"] : List String) := by simp) (gi : Gl X "isinstance" := by rfl) (gT : Gl X n := by rfl) (hn : n ≠ "__name__" := by decide)
    (hd : (n == ("__debug__" : Str)) = false := by decide) (hs1 : starEach (e :: [.Name n p2]) X.env = (false, eval e X.env) :: starEach [.Name n p2] X.env := by rfl) (hs2 : starEach [.Name n p2] X.env = (false, eval (.Name n p2) X.env) :: starEach [] X.env := by rfl)
    (hpl : (backTo p3 (starEach [.Name n p2] X.env)).any (·.1) = false := by rfl) (hK : X.K = K := by rfl) : PD X K E (.Call (.Name "isinstance" p1) [e, .Name n p2] [] p3) (tIsiY K ht T) (dIsi T t) := by
  subst hK
  refine ⟨pe_callB (X := X) (p := p1) (pos := p3) call_isi gi b.isinstance (by decide +kernel) (pa_cons h0.p (pa_cons (pe_bltn (v := .ty T) (pos := p2) gT mT bT rfl hn hd) pa_nil hs2) hs1) (he := hs1) (hpl := hpl), fun Φ H σ ρ ω T' q Q x s hx k h => h0.r Φ H σ ρ ω T' _ _ x s hx (fun s1 ω1 v H1 h ⟨B, α, sb⟩ => ?_) h⟩
  cases e1 : tyS s1 ω1 with
  | none => simp only [e1] at h
  | some a =>
    simp only [e1] at h
    obtain ⟨x1, x2⟩ := tyS_ok sb (sb.tm (v, s1) List.mem_cons_self) e1
    refine ⟨v, .ty T, .type a, .type T, kitS a T, rfl, .ty T, x1, kit_ty (kit_tab a x2 T hT), k _ _ _ _ h (drop_mid (U := [(v, s1)]) (St.push (d := .bl (kitS a T)) (v := .bl (kitS a T)) sb.st fun _ => .bl _))⟩
/-! ### all, any, sum -/
def allB : List D → Option (List Bool)
  | [] => some []
  | .bl b :: ds => (allB ds).map (b :: ·)
  | _ :: _ => none
def allI : List D → Option (List Int)
  | [] => some []
  | .int b :: ds => (allI ds).map (b :: ·)
  | _ :: _ => none
theorem rs_bls {B : Hp} : ∀ {ds : List D} {vs : List V} {bs : List Bool}, Rs K B vs ds → allB ds = some bs → vs = bs.map V.bl
  | [], _, _, .nil, h => by cases h; rfl
  | d :: ds, _, bs, .cons r t, h => by
    unfold allB at h
    split at h
    · rename_i e; cases e
    · rename_i e
      cases e
      obtain ⟨cs, h1, rfl⟩ := Option.map_eq_some_iff.mp h
      rw [r_bl r, rs_bls t h1]
      rfl
    · cases h
theorem rs_ints {B : Hp} : ∀ {ds : List D} {vs : List V} {bs : List Int}, Rs K B vs ds → allI ds = some bs → vs = bs.map V.int
  | [], _, _, .nil, h => by cases h; rfl
  | d :: ds, _, bs, .cons r t, h => by
    unfold allI at h
    split at h
    · rename_i e; cases e
    · rename_i e
      cases e
      obtain ⟨cs, h1, rfl⟩ := Option.map_eq_some_iff.mp h
      rw [r_int r, rs_ints t h1]
      rfl
    · cases h
def lstOf (s : S) (ω : Sto) (k : List D → Prop) : Prop := match s with
  | .d (.lst ds) => k ds
  | .pin j => match ω[j]? with
    | some (.lst ss) => allDk ss k
    | _ => False
  | _ => False
theorem lst_of {v : V} {s : S} {k : List D → Prop} (sb : StB Φ K B α H σ ρ ω T) (r : RS K α B v s) (h : lstOf s ω k) : ∃ a xs ds, v = .ref a ∧ H a = some (.lst xs) ∧ Rs K B xs ds ∧ k ds := by
  unfold lstOf at h
  split at h
  · obtain ⟨a, xs, e, ha, ra⟩ := r_lst r
    exact ⟨a, xs, _, e, sb.fr.bh _ _ ha, ra, h⟩
  · split at h
    · rename_i e
      obtain ⟨a, rfl, ha, _, xs, ex, rp⟩ := pin_of sb r e
      unfold allDk at h
      split at h
      · rename_i e2
        exact ⟨a, xs, _, rfl, ex, rs_all rp e2, h⟩
      · exact h.elim
    · exact h.elim
  · exact h.elim
def boolsD (g : List Bool → Bool) : CB := fun ss ω q => match ss with
  | [s] => lstOf s ω fun ds => match allB ds with | some bs => q (.d (.bl (g bs))) ω | none => False
  | _ => False
theorem refC_bools {g : List Bool → Bool} : RefC K (fun vs H Q => ∃ (a : Addr) (bs : List Bool), vs = [V.ref a] ∧ SqL K H a (bs.map V.bl) ∧ Q (.bl (g bs)) H) (boolsD g) := fun Φ B α H σ ρ ω T vs ss q Q sb rr m k h => by
  unfold boolsD at h
  split at h
  · obtain ⟨v, rfl, r⟩ := pair1 rr
    obtain ⟨a, xs, ds, rfl, ex, rs, h⟩ := lst_of sb r h
    cases e : allB ds with
    | none => simp only [e] at h
    | some bs =>
      simp only [e] at h
      rw [rs_bls rs e] at ex
      exact ⟨a, bs, rfl, SqL.of ex, k _ _ _ _ h (sb.st.push fun _ => .bl _)⟩
  · exact h.elim
def sumD : CB := fun ss ω q => match ss with
  | [s] => lstOf s ω fun ds => match allI ds with | some bs => q (.d (.int bs.sum)) ω | none => False
  | _ => False
theorem refC_sum : RefC K (rSum K) sumD := fun Φ B α H σ ρ ω T vs ss q Q sb rr m k h => by
  unfold sumD at h
  split at h
  · obtain ⟨v, rfl, r⟩ := pair1 rr
    obtain ⟨a, xs, ds, rfl, ex, rs, h⟩ := lst_of sb r h
    cases e : allI ds with
    | none => simp only [e] at h
    | some bs =>
      simp only [e] at h
      rw [rs_ints rs e] at ex
      exact ⟨a, bs, rfl, SqL.of ex, k _ _ _ _ h (sb.st.push fun _ => .int _)⟩
  · exact h.elim
section
variable {p pos : Pos} {e : Expr} {u : TAD}
theorem y_all (b : Bu X.mg) (hc : X.calm = true) (ha : PAD X K E [e] ht u) (hg : Gl X "all" := by rfl) (he : starEach [e] X.env = (false, eval e X.env) :: starEach [] X.env := by rfl) (hK : X.K = K := by rfl) : PD X K E (.Call (.Name "all" p) [e] [] pos) (tCB (rAll K) ht) (dB (boolsD fun bs => bs.all id) u) := by
  subst hK
  exact y_blt (cr_all hc) refC_bools b.all (by decide +kernel) ha hg (he := he) (hpl := rfl)
theorem y_any (b : Bu X.mg) (hc : X.calm = true) (ha : PAD X K E [e] ht u) (hg : Gl X "any" := by rfl) (he : starEach [e] X.env = (false, eval e X.env) :: starEach [] X.env := by rfl) (hK : X.K = K := by rfl) : PD X K E (.Call (.Name "any" p) [e] [] pos) (tCB (rAny K) ht) (dB (boolsD fun bs => bs.any id) u) := by
  subst hK
  exact y_blt (cr_any hc) refC_bools b.any (by decide +kernel) ha hg (he := he) (hpl := rfl)
theorem y_sum (b : Bu X.mg) (hc : X.calm = true) (ha : PAD X K E [e] ht u) (hg : Gl X "sum" := by rfl) (he : starEach [e] X.env = (false, eval e X.env) :: starEach [] X.env := by rfl) (hK : X.K = K := by rfl) : PD X K E (.Call (.Name "sum" p) [e] [] pos) (tCB (rSum K) ht) (dB sumD u) := by
  subst hK
  exact y_blt (cr_sum hc) refC_sum b.sum (by decide +kernel) ha hg (he := he) (hpl := rfl)
/-! ### tuple(x), list(x) -/
def tupD : CB := fun ss ω q => match ss with
  | [.d (.tup ds)] => q (.d (.tup ds)) ω
  | [s] => lstOf s ω fun ds => q (.d (.tup ds)) ω
  | _ => False
theorem refC_tup : RefC K (fun xs H Q => ∃ p ys, xs = [.ref p] ∧ ((SqL K H p ys ∧ ∀ l, H l = none → Q (.ref l) (upd H l (.tup ys))) ∨ (SqT K H p ys ∧ Q (.ref p) H))) tupD := fun Φ B α H σ ρ ω T vs ss q Q sb rr m k h => by
  unfold tupD at h
  split at h
  · obtain ⟨v, rfl, r⟩ := pair1 rr
    obtain ⟨a, xs, rfl, ha, ra⟩ := r_tup r
    exact ⟨a, xs, rfl, .inr ⟨SqT.of (sb.fr.bh _ _ ha), k _ _ _ _ h (sb.pushD r).st⟩⟩
  · obtain ⟨v, rfl, r⟩ := pair1 rr
    obtain ⟨a, xs, ds, rfl, ex, rs, h⟩ := lst_of sb r h
    exact ⟨a, xs, rfl, .inl ⟨SqL.of ex, fun l hl => k _ _ _ _ h (sb.tup hl rs)⟩⟩
  · exact h.elim
def sqOf (s : S) (ω : Sto) (k : List D → Prop) : Prop := match s with
  | .d (.tup ds) => k ds
  | .d (.ktup ds) => k ds
  | s => lstOf s ω k
theorem sq_of {v : V} {s : S} {k : List D → Prop} (sb : StB Φ K B α H σ ρ ω T) (r : RS K α B v s) (h : sqOf s ω k) : ∃ a xs ds, v = .ref a ∧ (SqL K H a xs ∨ SqT K H a xs) ∧ Rs K B xs ds ∧ k ds := by
  unfold sqOf at h
  split at h
  · obtain ⟨a, xs, e, ha, ra⟩ := r_tup r
    exact ⟨a, xs, _, e, .inr (SqT.of (sb.fr.bh _ _ ha)), ra, h⟩
  · obtain ⟨a, xs, e, ha, ra⟩ := r_ktup r
    exact ⟨a, xs, _, e, .inr (sameT sb.fr.bh ha), ra, h⟩
  · obtain ⟨a, xs, ds, e, ex, rs, h⟩ := lst_of sb r h
    exact ⟨a, xs, ds, e, .inl (SqL.of ex), rs, h⟩
def listD : CB := fun ss ω q => match ss with
  | [s] => sqOf s ω fun ds => q (.d (.lst ds)) ω
  | _ => False
def listP : CB := fun ss ω q => match ss with
  | [s] => sqOf s ω fun ds => q (.pin ω.length) (ω ++ [.lst (ds.map .d)])
  | _ => False
abbrev rListY (K : PySem.W.Frag) : List V → Hp → VK → Prop := fun xs H Q => ∃ p ys, xs = [.ref p] ∧ (SqL K H p ys ∨ SqT K H p ys) ∧ ∀ l, H l = none → Q (.ref l) (upd H l (.lst ys))
theorem rs_pairA {vs : List V} {ds : List D} (r : Rs K B vs ds) : Paired (RS K α B) vs (ds.map .d) := by
  have h := r.paired
  clear r
  induction h with
  | nil => exact .nil
  | cons h t ih => exact .cons h ih
theorem refC_listD : RefC K (rListY K) listD := fun Φ B α H σ ρ ω T vs ss q Q sb rr m k h => by
  unfold listD at h
  split at h
  · obtain ⟨v, rfl, r⟩ := pair1 rr
    obtain ⟨a, xs, ds, rfl, ex, rs, h⟩ := sq_of sb r h
    exact ⟨a, xs, rfl, ex, fun l hl => k _ _ _ _ h (sb.lstD hl rs)⟩
  · exact h.elim
theorem refC_listP : RefC K (rListY K) listP := fun Φ B α H σ ρ ω T vs ss q Q sb rr m k h => by
  unfold listP at h
  split at h
  · obtain ⟨v, rfl, r⟩ := pair1 rr
    obtain ⟨a, xs, ds, rfl, ex, rs, h⟩ := sq_of sb r h
    exact ⟨a, xs, rfl, ex, fun l hl => k _ _ _ _ h (sb.lst hl (rs_pairA rs))⟩
  · exact h.elim
abbrev rTupY (K : PySem.W.Frag) : List V → Hp → VK → Prop := fun xs H Q => ∃ p ys, xs = [.ref p] ∧ ((SqL K H p ys ∧ ∀ l, H l = none → Q (.ref l) (upd H l (.tup ys))) ∨ (SqT K H p ys ∧ Q (.ref p) H))
theorem y_tupC (b : Bu X.mg) (ha : PAD X K E [e] ht u) (hg : Gl X "tuple" := by rfl) (he : starEach [e] X.env = (false, eval e X.env) :: starEach [] X.env := by rfl) (hK : X.K = K := by rfl) : PD X K E (.Call (.Name "tuple" p) [e] [] pos) (tCB (rTupY K) ht) (dB tupD u) := by
  subst hK
  exact y_bty call_tuple_of refC_tup b.tuple (by decide +kernel) ha hg (he := he) (hpl := rfl)
theorem y_listD (b : Bu X.mg) (ha : PAD X K E [e] ht u) (hg : Gl X "list" := by rfl) (he : starEach [e] X.env = (false, eval e X.env) :: starEach [] X.env := by rfl) (hK : X.K = K := by rfl) : PD X K E (.Call (.Name "list" p) [e] [] pos) (tCB (rListY K) ht) (dB listD u) := by
  subst hK
  exact y_bty call_list_of refC_listD b.list (by decide +kernel) ha hg (he := he) (hpl := rfl)
theorem y_listP (b : Bu X.mg) (ha : PAD X K E [e] ht u) (hg : Gl X "list" := by rfl) (he : starEach [e] X.env = (false, eval e X.env) :: starEach [] X.env := by rfl) (hK : X.K = K := by rfl) : PD X K E (.Call (.Name "list" p) [e] [] pos) (tCB (rListY K) ht) (dB listP u) := by
  subst hK
  exact y_bty call_list_of refC_listP b.list (by decide +kernel) ha hg (he := he) (hpl := rfl)
/-! ### int(x), abs(x) -/
def intD : CB := fun ss ω q => match ss with
  | [.d (.int i)] => q (.d (.int i)) ω
  | [.d (.bl i)] => q (.d (.int (b2i i))) ω
  | _ => False
def absD : CB := fun ss ω q => match ss with
  | [.d (.int i)] => q (.d (.int (if i < 0 then -i else i))) ω
  | _ => False
end
end
end Y

set_option Elab.async false
set_option linter.all false
set_option maxRecDepth 100000
set_option maxHeartbeats 2000000
/-! xs.extend(a tuple) -/
namespace XE
open PySem PySem.Spec PyProof.Rows L2
theorem ext_tup (l : Addr) (items : Array Value) (n : Nat) (b : Addr) (items2 : Array Value) (n2 : Nat) (d2 : Option Addr) (sl2 : Array (Option Value)) (hs0 : ¬(!items.isEmpty && Builtin.List.listTooLong (items.size + items2.size)) = true) (hs1 : items.size ≤ sizeLine) (hs2 : items.size + items2.size ≤ sizeLine + 1) :
    Meets (Builtin.«list.extend» ⟨[.ref l, .ref b], []⟩) (fun _ R s => s.heap.get? l = some { cls := .type "list", dict := none, data := .seq items n, slots := #[] } ∧ s.heap.get? b = some { cls := .type "tuple", dict := d2, data := .seq items2 n2, slots := sl2 } ∧ R (.ok (.ret Value.none)) { s with heap := s.heap.update l (Obj.mapSeq fun x => x ++ items2) }) :=
  .of_wp fun prog w A R s h => by
    obtain ⟨hp, g, d, tk, os⟩ := s
    obtain ⟨hl, hb, h⟩ := h
    have q1 := AutoSeq1.idx_int
    have q2 := AutoSeq1.sub_tuple_tuple
    have q3 := AutoSeq1.sub_list_list
    have q4 := AutoSeq1.sub_tuple_list
    have q5 := AutoSeq1.sub_list_tuple
    have hz' : (items ++ items2).size ≤ sizeLine + 1 := by rw [Array.size_append]; exact hs2
    wp_walk using (wpAny_updateSeq hl rfl (hz := hs1) (_hz' := hz')), AutoSeq1.wpAny_loadPart' hl, AutoSeq1.wpAny_loadPart' hb; exact ⟨_, rfl, h⟩
end XE
namespace L2
open PySem PySem.Spec PyProof.Rows
section
variable {X : Cx}
/-- xs.extend(t), t a tuple -/
def rExtendT (K : PySem.W.Frag) : V → List V → Hp → VK → Prop := fun x vs H Q => ∃ l b xs zs, x = .ref l ∧ vs = [.ref b] ∧ H l = some (.lst xs) ∧ SqT K H b zs ∧ xs.length + zs.length ≤ sizeLine ∧ Q .non (upd H l (.lst (xs ++ zs)))
theorem mt_extendT : MtM X "list.extend" (rExtendT X.K) := by
  intro pins s σ H x vs v us Q I rx rv h
  obtain ⟨l, b, xs, zs, rfl, rfl, hH, hB, hz, q⟩ := h
  cases rx
  obtain ⟨u, rfl, ru⟩ := rv.one
  cases ru
  obtain ⟨z, its, n, r, hl, e⟩ := I.lstM hH
  obtain ⟨its2, r2, ⟨⟨oc, od, odt, osl⟩, e2, hc, n2, hd⟩, z2⟩ := I.tuple hB
  dsimp only at hc hd
  subst hc hd
  have hl2 := r2.length
  have hsz : its.toArray.size + its2.toArray.size ≤ sizeLine := by rw [List.size_toArray, List.size_toArray]; omega
  have hlong : ¬ (!its.toArray.isEmpty && Builtin.List.listTooLong (its.toArray.size + its2.toArray.size)) = true := by
    rw [notLongL hsz, Bool.and_false]
    exact Bool.false_ne_true
  refine call_meets F.slot_list_extend ⟨_, e, rfl⟩ F.entry_list_extend (F.args_list_extend_2 _ _)
    (XE.ext_tup l its.toArray n b its2.toArray n2 od osl hlong (by rw [List.size_toArray]; omega) (by omega)) ⟨e, e2, ?_⟩
  refine ⟨.non, _, I.lset (t' := s.toks) (its' := its ++ its2) hH e (by simp) (r.append r2) ?_, rfl, q⟩
  rw [List.length_append]
  omega
end
end L2

set_option Elab.async false
set_option linter.all false
set_option maxRecDepth 100000
set_option maxHeartbeats 2000000
namespace Y
open PySem PySem.Spec PyProof.Rows L2
variable {w : World} [Tb w]
/-! ### defs by name -/
structure Dfn (K : PySem.W.Frag) (mg : Str → Option Value) (x : Str) (ps : List Str) (st : Stmt) : Prop where
  ex : ∃ f fd, Fun K x x st f fd ∧ mg x = some (.ref f) ∧ Binds K fd ps []
structure Cal (P : Program) (w : World) (K : PySem.W.Frag) (mg : Str → Option Value) (base : Heap) (CX : CXT) (k : Nat) (x : Str) (ps : List Str) (sp : Sp) : Prop where
  ex : ∃ f fd, FnOk P w K mg base CX k f fd ps sp ∧ mg x = some (.ref f) ∧ PySem.W.keepIn K (.ref f) = true ∧ Binds K fd ps []
section
variable {P : Program} {K : PySem.W.Frag} {mg : Str → Option Value} {base : Heap} {CX : CXT} {j k : Nat} {x : Str} {ps N : List Str} {sp sp' : Sp} {st : Stmt}
theorem Cal.mono (c : Cal P w K mg base CX j x ps sp) (h : j ≤ k) : Cal P w K mg base CX k x ps sp := let ⟨f, fd, F, r⟩ := c.ex; ⟨f, fd, F.mono h, r⟩
theorem Cal.imp (c : Cal P w K mg base CX k x ps sp) (h : ∀ vs H Q E, sp' vs H Q E → sp vs H Q E) : Cal P w K mg base CX k x ps sp' := let ⟨f, fd, F, r⟩ := c.ex; ⟨f, fd, F.imp h, r⟩
theorem calP {C : CP} (Dn : Dfn K mg x ps st) (Sc : FnScope N ps (defScope st)) (hlen : ∀ ds q, C ds q → ds.length = ps.length)
    (hbody : ∀ (f : Addr) (cdv : Value) (A : Around) (outer : List PySem.Env) (s : Shared) (H : Hp) (E : XK) (ds : List D) (q : D → Prop), Room k (A.deeper (envOfC x (defScope st) s.heap.objs.size f cdv)) → C ds q →
      ∃ ts td, PSsD (cxOf CX0 P w K mg base N x (defScope st) f cdv A outer s H E).nox K E0 (defBody st) ts td ∧ td (endsP q fun _ => False) (startD N (ds.map .d)) []) : Cal P w K mg base CX0 (k + 1) x ps (spP K C) := by
  obtain ⟨f, fd, F, m, b⟩ := Dn.ex
  exact ⟨f, fd, fnP F Sc hlen (hbody f), m, F.kp, b⟩
theorem calPX {C : CPX} (Dn : Dfn K mg x ps st) (Sc : FnScope N ps (defScope st)) (hlen : ∀ ds q x, C ds q x → ds.length = ps.length)
    (hbody : ∀ (f : Addr) (cdv : Value) (A : Around) (outer : List PySem.Env) (s : Shared) (H : Hp) (E : XK) (ds : List D) (q : D → Prop) (xd : XD), Room k (A.deeper (envOfC x (defScope st) s.heap.objs.size f cdv)) → C ds q xd →
      ∃ ts td, PSsD (cxOf (L2.CX P w) P w K mg base N x (defScope st) f cdv A outer s H E) K E (defBody st) ts td ∧ td (endsP q xd) (startD N (ds.map .d)) []) : Cal P w K mg base (L2.CX P w) (k + 1) x ps (spPX K C) := by
  obtain ⟨f, fd, F, m, b⟩ := Dn.ex
  exact ⟨f, fd, fnPX F Sc hlen (hbody f), m, F.kp, b⟩
theorem calG {G : CG} (Dn : Dfn K mg x ps st) (Sc : FnScope N ps (defScope st)) (hlen : ∀ ss ω q, G ss ω q → ss.length = ps.length)
    (hbody : ∀ (f : Addr) (cdv : Value) (A : Around) (outer : List PySem.Env) (s : Shared) (H : Hp) (E : XK) (ss : List S) (ω : Sto) (q : S → Sto → Prop), Room k (A.deeper (envOfC x (defScope st) s.heap.objs.size f cdv)) → G ss ω q →
      ∃ ts td, PSsD (cxOf CX0 P w K mg base N x (defScope st) f cdv A outer s H E).nox K E0 (defBody st) ts td ∧ td (endsG q fun _ => False) (startD N ss) ω) : Cal P w K mg base CX0 (k + 1) x ps (spG K G) := by
  obtain ⟨f, fd, F, m, b⟩ := Dn.ex
  exact ⟨f, fd, fnG F Sc hlen (hbody f), m, F.kp, b⟩
theorem calGX {G : CGX} (Dn : Dfn K mg x ps st) (Sc : FnScope N ps (defScope st)) (hlen : ∀ ss ω q x, G ss ω q x → ss.length = ps.length)
    (hbody : ∀ (f : Addr) (cdv : Value) (A : Around) (outer : List PySem.Env) (s : Shared) (H : Hp) (E : XK) (ss : List S) (ω : Sto) (q : S → Sto → Prop) (xd : XD), Room k (A.deeper (envOfC x (defScope st) s.heap.objs.size f cdv)) → G ss ω q xd →
      ∃ ts td, PSsD (cxOf (L2.CX P w) P w K mg base N x (defScope st) f cdv A outer s H E) K E (defBody st) ts td ∧ td (endsG q xd) (startD N ss) ω) : Cal P w K mg base (L2.CX P w) (k + 1) x ps (spGX K G) := by
  obtain ⟨f, fd, F, m, b⟩ := Dn.ex
  exact ⟨f, fd, fnGX F Sc hlen (hbody f), m, F.kp, b⟩
/-- where nothing holds, nothing is to be shown -/
theorem cal_none (Dn : Dfn K mg x ps st) (h : ∀ vs H Q E, ¬ sp vs H Q E) : Cal P w K mg base CX k x ps sp := by
  obtain ⟨f, fd, F, m, b⟩ := Dn.ex
  exact ⟨f, fd, ⟨fun vs H Q E z => absurd z (h vs H Q E), fun A outer s H args us vs Q E _ _ _ _ z => absurd z (h vs H Q E)⟩, m, F.kp, b⟩
theorem cal_noP {C : CP} (Dn : Dfn K mg x ps st) (h : ∀ ds q, ¬ C ds q) : Cal P w K mg base CX0 k x ps (spP K C) := cal_none Dn fun vs H Q E ⟨_, ds, q, _, _, _, _, c, _⟩ => h ds q c.1
theorem cal_noG {G : CG} (Dn : Dfn K mg x ps st) (h : ∀ ss ω q, ¬ G ss ω q) : Cal P w K mg base CX0 k x ps (spG K G) := cal_none Dn fun vs H Q E ⟨_, _, ω, ss, q, _, _, _, _, c, _⟩ => h ss ω q c.1
end
section
variable {K : PySem.W.Frag} {X : Cx} {E : XK}
variable {Φ : Phi} {B : Hp} {α : List Addr} {H : Hp} {σ : L2.St} {ρ : Env} {ω : Sto} {T : List (V × S)}
section
variable {CX : CXT} {j k : Nat} {ps : List Str} {x : Str} {e : Expr} {es : List Expr} {p pos : Pos} {u : TAD}
theorem y_cal {C : CP} (c : Cal X.prog X.w K X.mg X.base CX0 j x ps (spP K C)) (hr : Room j X.A) (ha : PAD X K E (e :: es) ht u) (hg : Gl X x := by rfl) (hdb : (x == ("__debug__" : Str)) = false := by decide)
    (he : starEach (e :: es) X.env = (false, eval e X.env) :: starEach es X.env := by rfl) (hpl : (backTo pos (starEach es X.env)).any (·.1) = false := by rfl) (hK : X.K = K := by rfl) : PD X K E (.Call (.Name x p) (e :: es) [] pos) (tCall (spP K C) [] E0 ht) (dCall C u) := by
  obtain ⟨f, fd, F, m, kp, b⟩ := c.ex
  exact y_call F hr m kp b ha hg hdb he hpl hK
theorem y_calX {C : CPX} (c : Cal X.prog X.w K X.mg X.base CX j x ps (spPX K C)) (hr : Room j X.A) (hx : Passes CX X E) (ha : PAD X K E (e :: es) ht u) (hg : Gl X x := by rfl) (hdb : (x == ("__debug__" : Str)) = false := by decide)
    (he : starEach (e :: es) X.env = (false, eval e X.env) :: starEach es X.env := by rfl) (hpl : (backTo pos (starEach es X.env)).any (·.1) = false := by rfl) (hK : X.K = K := by rfl) : PD X K E (.Call (.Name x p) (e :: es) [] pos) (tCall (spPX K C) [] E ht) (dCallX C u) := by
  obtain ⟨f, fd, F, m, kp, b⟩ := c.ex
  exact y_callX F hr m kp b hx ha hg hdb he hpl hK
theorem y_calG {G : CG} (c : Cal X.prog X.w K X.mg X.base CX0 j x ps (spG K G)) (hr : Room j X.A) (ha : PAD X K E (e :: es) ht u) (hg : Gl X x := by rfl) (hdb : (x == ("__debug__" : Str)) = false := by decide)
    (he : starEach (e :: es) X.env = (false, eval e X.env) :: starEach es X.env := by rfl) (hpl : (backTo pos (starEach es X.env)).any (·.1) = false := by rfl) (hK : X.K = K := by rfl) : PD X K E (.Call (.Name x p) (e :: es) [] pos) (tCall (spG K G) [] E0 ht) (dCallG G u) := by
  obtain ⟨f, fd, F, m, kp, b⟩ := c.ex
  exact y_callG F hr m kp b ha hg hdb he hpl hK
theorem y_calGX {G : CGX} (c : Cal X.prog X.w K X.mg X.base CX j x ps (spGX K G)) (hr : Room j X.A) (hx : Passes CX X E) (ha : PAD X K E (e :: es) ht u) (hg : Gl X x := by rfl) (hdb : (x == ("__debug__" : Str)) = false := by decide)
    (he : starEach (e :: es) X.env = (false, eval e X.env) :: starEach es X.env := by rfl) (hpl : (backTo pos (starEach es X.env)).any (·.1) = false := by rfl) (hK : X.K = K := by rfl) : PD X K E (.Call (.Name x p) (e :: es) [] pos) (tCall (spGX K G) [] E ht) (dCallGX G u) := by
  obtain ⟨f, fd, F, m, kp, b⟩ := c.ex
  exact y_callGX F hr m kp b hx ha hg hdb he hpl hK
end
/-! ### o.m(..), o a list, a dict, a text -/
abbrev FM := S → List S → Sto → (S → Sto → Prop) → Prop
def tyOk (T : String) (s : S) (ω : Sto) : Prop := match s with
  | .d (.str _) => T = "str"
  | .d (.lst _) => T = "list"
  | .pin j => match ω[j]? with
    | some (.lst _) => T = "list"
    | some (.dK _) => T = "dict"
    | some (.dT _) => T = "dict"
    | _ => False
  | _ => False
theorem ty_ok {Ty : String} {v : V} {s : S} (sb : StB Φ K B α H σ ρ ω T) (r : RS K α B v s) (h : tyOk Ty s ω) : tyV K Ty v H := by
  unfold tyOk at h
  split at h
  · rw [show v = .str _ from r_str r]; exact h
  · obtain ⟨a, xs, e, ha, ra⟩ := r_lst r
    subst e
    exact .inl ⟨h, xs, SqL.of (sb.fr.bh _ _ ha)⟩
  · split at h
    · rename_i e
      obtain ⟨a, rfl, ha, _, xs, ex, rp⟩ := pin_of sb r e
      exact .inl ⟨h, xs, SqL.of ex⟩
    · rename_i e
      obtain ⟨a, rfl, ha, _, xs, ex, rp⟩ := pin_of sb r e
      exact .inr (.inr (.inl ⟨h, .inl ⟨xs, ex⟩⟩))
    · rename_i e
      obtain ⟨a, rfl, ha, _, xs, ex, rp⟩ := pin_of sb r e
      exact .inr (.inr (.inl ⟨h, .inr ⟨xs, ex⟩⟩))
    · exact h.elim
  · exact h.elim
def RefM (K : PySem.W.Frag) (r : V → List V → Hp → VK → Prop) (f : FM) : Prop := ∀ (Φ : Phi) (B : Hp) (α : List Addr) (H : Hp) (σ : L2.St) (ρ : Env) (ω : Sto) (T : List (V × S)) (v : V) (s : S) (vs : List V) (ss : List S) (q : S → Sto → Prop) (Q : VK), StB Φ K B α H σ ρ ω T → RS K α B v s → Paired (RS K α B) vs ss →
  (∀ s ω' v H', q s ω' → St Φ K H' σ ρ ω' ((v, s) :: T) → Q v H') → f s ss ω q → r v vs H Q
def dMt (Ty : String) (f : FM) (t : TD) (u : TAD) : TD := fun ρ ω q x => t ρ ω (fun s ω1 => tyOk Ty s ω1 ∧ u ρ ω1 (fun ss ω2 => f s ss ω2 q) x) x
def dMt0 (Ty : String) (f : FM) (t : TD) : TD := fun ρ ω q x => t ρ ω (fun s ω1 => tyOk Ty s ω1 ∧ f s [] ω1 q) x
section
variable {o e : Expr} {es : List Expr} {t : TD} {u : TAD} {name : Str} {apos cpos : Pos} {Ty id : String} {r : V → List V → Hp → VK → Prop} {f : FM}
theorem y_bm0 (pa : PlainAttrs Ty) (slot : Slot Ty name id) (hty : typeOf (.builtin id) = pure (.type "method_descriptor")) (hm : MtR X id r) (hf : RefM K r f) (h0 : PD X K E o ht t)
    (hbase : attributeBase o name X.env (eval o X.env) = eval o X.env := by rfl) (hline : (apos.endLine == cpos.line) = true := by rfl) (hK : X.K = K := by rfl) : PD X K E (.Call (.Attribute o name apos) [] [] cpos) (tBM0 K Ty r ht) (dMt0 Ty f t) := by
  subst hK
  refine ⟨pe_bm0 pa slot hty hm h0.p hbase hline, fun Φ H σ ρ ω T q Q x s hx k h => h0.r Φ H σ ρ ω T _ _ x s hx (fun s1 ω1 v H1 h ⟨B, α, sb⟩ => ?_) h⟩
  have rv := sb.tm (v, s1) List.mem_cons_self
  exact ⟨ty_ok sb rv h.1, hf _ B α H1 σ ρ ω1 _ v s1 [] [] q Q sb rv .nil (fun s ω' v' H' hq st => k _ _ _ _ hq (drop_mid (U := [(v, s1)]) st)) h.2⟩
theorem y_bm (pa : PlainAttrs Ty) (slot : Slot Ty name id) (hty : typeOf (.builtin id) = pure (.type "method_descriptor")) (hm : MtR X id r) (hf : RefM K r f) (h0 : PD X K E o ht t) (ha : PAD X K E (e :: es) hu u)
    (hbase : attributeBase o name X.env (eval o X.env) = eval o X.env := by rfl)
    (hfew : ((backTo cpos (starEach (e :: es) X.env)).all (fun x => !x.1) && (backToKw cpos (keywordEach [] X.env)).all (fun x => x.1.isSome)
      && decide ((e :: es).length + ([] : List Keyword).length + (if ([] : List Keyword).isEmpty then 0 else 1) < 30)) = true := by rfl)
    (hline : (apos.endLine == cpos.line) = true := by rfl) (hs : starEach (e :: es) X.env = (false, eval e X.env) :: starEach es X.env := by rfl) (hplain : (backTo cpos (starEach es X.env)).any (·.1) = false := by rfl) (hK : X.K = K := by rfl) :
    PD X K E (.Call (.Attribute o name apos) (e :: es) [] cpos) (tBM K Ty r ht hu) (dMt Ty f t u) := by
  subst hK
  refine ⟨pe_bm pa slot hty hm h0.p ha.p hbase hfew hline hs hplain, fun Φ H σ ρ ω T q Q x s hx k h => h0.r Φ H σ ρ ω T _ _ x s hx (fun s1 ω1 v H1 h ⟨B, α, sb⟩ => ?_) h⟩
  have rv := sb.tm (v, s1) List.mem_cons_self
  refine ⟨ty_ok sb rv h.1, ha.r Φ H1 σ ρ ω1 _ _ _ x sb.st hx (fun ss ω2 vs H2 h l ⟨B2, α2, sb2⟩ => ?_) h.2⟩
  exact hf _ B2 α2 H2 σ ρ ω2 _ v s1 vs ss q Q sb2 (sb2.tm (v, s1) (by simp)) (St.pair sb2 l) (fun s ω' v' H' hq st => k _ _ _ _ hq (st.sub fun p hp => by
    rcases List.mem_cons.mp hp with rfl | hp
    · simp
    · simp [hp])) h
end
/-- a cell is written -/
theorem StB.writeC (s : StB Φ K B α H σ ρ ω T) {j : Nat} {a : Addr} {c' : Cell} {o : HO} (ha : α[j]? = some a) (hb : B a = none) (hc : CellOk K α B (upd H a o) a c') : StB Φ K B α (upd H a o) σ ρ (ω.set j c') T := by
  obtain ⟨f, w⟩ := Frame.write s.fr.bh s.wd ha hb o hc
  exact s.step f w
def appD : FM := fun s ss ω q => match s, ss with
  | .pin j, [y] => match ω[j]? with
    | some (.lst xs) => xs.length < 1000000 ∧ q (.d .non) (ω.set j (.lst (xs ++ [y])))
    | _ => False
  | _, _ => False
theorem refM_app : RefM K rAppend appD := fun Φ B α H σ ρ ω T v s vs ss q Q sb r rr k h => by
  unfold appD at h
  split at h
  · obtain ⟨w, rfl, r2⟩ := pair1 rr
    split at h
    · rename_i e
      obtain ⟨a, rfl, ha, nb, xs, ex, rp⟩ := pin_of sb r e
      refine ⟨a, xs, w, rfl, rfl, ex, Nat.lt_of_lt_of_le (by rw [Paired.length rp]; exact h.1) (lineB (Nat.le_refl _)), k _ _ _ _ h.2 ?_⟩
      exact (sb.writeC (c' := .lst _) (o := .lst _) ha nb ⟨nb, _, upd_same, paired_app rp (.cons r2 .nil)⟩).st.push fun _ => .non
    · exact h.elim
  · exact h.elim
def popD : FM := fun s ss ω q => match s, ss with
  | .pin j, [] => match ω[j]? with
    | some (.lst xs) => match xs[xs.length - 1]? with
      | some y => q y (ω.set j (.lst xs.dropLast))
      | none => False
    | _ => False
  | _, _ => False
theorem paired_dl {α β : Type} {F : α → β → Prop} {l : List α} {m : List β} (h : Paired F l m) : Paired F l.dropLast m.dropLast := by
  induction h with
  | nil => exact .nil
  | cons h t ih =>
    cases t with
    | nil => exact .nil
    | cons h2 t2 => exact .cons h ih
theorem refM_pop : RefM K rPop popD := fun Φ B α H σ ρ ω T v s vs ss q Q sb r rr k h => by
  unfold popD at h
  split at h
  · cases rr
    split at h
    · rename_i e
      obtain ⟨a, rfl, ha, nb, xs, ex, rp⟩ := pin_of sb r e
      split at h
      · rename_i y ey
        obtain ⟨w, ew, rw⟩ := paired_get rp ey
        refine ⟨a, xs, w, rfl, rfl, ex, by rw [Paired.length rp]; exact ew, k _ _ _ _ h ?_⟩
        exact ((sb.writeC (c' := .lst _) (o := .lst _) ha nb ⟨nb, _, upd_same, paired_dl rp⟩).push rw).st
      · exact h.elim
    · exact h.elim
  · exact h.elim
/-- what a list is made longer by -/
def itemsOf (s : S) (ω : Sto) : Option (List S) := match s with
  | .d (.tup ds) => some (ds.map .d)
  | .d (.lst ds) => some (ds.map .d)
  | .pin j => match ω[j]? with
    | some (.lst ss) => some ss
    | _ => none
  | _ => none
def extD : FM := fun s ss ω q => match s, ss with
  | .pin j, [y] => match ω[j]?, itemsOf y ω with
    | some (.lst xs), some ys => xs.length + ys.length ≤ 1000000 ∧ q (.d .non) (ω.set j (.lst (xs ++ ys)))
    | _, _ => False
  | _, _ => False
def rExtY (K : PySem.W.Frag) : V → List V → Hp → VK → Prop := fun x vs H Q => rExtend x vs H Q ∨ rExtendT K x vs H Q
theorem mt_extY : MtR X "list.extend" (rExtY X.K) := MtR.or mt_extend mt_extendT
theorem refM_ext : RefM K (rExtY K) extD := fun Φ B α H σ ρ ω T v s vs ss q Q sb r rr k h => by
  unfold extD at h
  split at h
  · obtain ⟨w, rfl, r2⟩ := pair1 rr
    split at h
    · rename_i e e2
      obtain ⟨a, rfl, ha, nb, xs, ex, rp⟩ := pin_of sb r e
      have fin : ∀ {zs : List V} {ys : List S}, Paired (RS K α B) zs ys → q (.d .non) (ω.set _ (.lst (_ ++ ys))) → Q .non (upd H a (.lst (xs ++ zs))) := fun rz hq => k _ _ _ _ hq ((sb.writeC (c' := .lst _) (o := .lst _) ha nb ⟨nb, _, upd_same, paired_app rp rz⟩).st.push fun _ => .non)
      have lx := Paired.length rp
      unfold itemsOf at e2
      split at e2
      · cases e2
        obtain ⟨b, zs, rfl, hb, rb⟩ := r_tup r2
        have lz := rb.len
        exact .inr ⟨a, b, xs, zs, rfl, rfl, ex, SqT.of (sb.fr.bh _ _ hb), lineB (by have := h.1; rw [List.length_map] at this; omega), fin (rs_pairA rb) h.2⟩
      · cases e2
        obtain ⟨b, zs, rfl, hb, rb⟩ := r_lst r2
        have lz := rb.len
        exact .inl ⟨a, b, xs, zs, rfl, rfl, ex, sb.fr.bh _ _ hb, lineB (by have := h.1; rw [List.length_map] at this; omega), fin (rs_pairA rb) h.2⟩
      · split at e2
        · rename_i e3
          cases e2
          obtain ⟨b, rfl, hb, _, zs, ez, rz⟩ := pin_of sb r2 e3
          have lz := Paired.length rz
          exact .inl ⟨a, b, xs, zs, rfl, rfl, ex, ez, lineB (by have := h.1; omega), fin rz h.2⟩
        · cases e2
      · cases e2
    · exact h.elim
  · exact h.elim
section
variable {o e : Expr} {t : TD} {u : TAD} {apos cpos : Pos}
theorem y_append (h0 : PD X K E o ht t) (ha : PAD X K E [e] hu u) (hbase : attributeBase o "append" X.env (eval o X.env) = eval o X.env := by rfl)
    (hfew : ((backTo cpos (starEach [e] X.env)).all (fun x => !x.1) && (backToKw cpos (keywordEach [] X.env)).all (fun x => x.1.isSome) && decide (([e] : List Expr).length + ([] : List Keyword).length + (if ([] : List Keyword).isEmpty then 0 else 1) < 30)) = true := by rfl)
    (hline : (apos.endLine == cpos.line) = true := by rfl) (hs : starEach [e] X.env = (false, eval e X.env) :: starEach [] X.env := by rfl) (hK : X.K = K := by rfl) : PD X K E (.Call (.Attribute o "append" apos) [e] [] cpos) (tBM K "list" rAppend ht hu) (dMt "list" appD t u) :=
  y_bm PySem.F.plainAttrs_list PySem.F.slot_list_append PySem.F.type_list_append mt_append refM_app h0 ha hbase hfew hline hs rfl hK
theorem y_extend (h0 : PD X K E o ht t) (ha : PAD X K E [e] hu u) (hbase : attributeBase o "extend" X.env (eval o X.env) = eval o X.env := by rfl)
    (hfew : ((backTo cpos (starEach [e] X.env)).all (fun x => !x.1) && (backToKw cpos (keywordEach [] X.env)).all (fun x => x.1.isSome) && decide (([e] : List Expr).length + ([] : List Keyword).length + (if ([] : List Keyword).isEmpty then 0 else 1) < 30)) = true := by rfl)
    (hline : (apos.endLine == cpos.line) = true := by rfl) (hs : starEach [e] X.env = (false, eval e X.env) :: starEach [] X.env := by rfl) (hK : X.K = K := by rfl) : PD X K E (.Call (.Attribute o "extend" apos) [e] [] cpos) (tBM K "list" (rExtY K) ht hu) (dMt "list" extD t u) := by
  subst hK
  exact y_bm PySem.F.plainAttrs_list PySem.F.slot_list_extend PySem.F.type_list_extend mt_extY refM_ext h0 ha hbase hfew hline hs rfl rfl
theorem y_pop (h0 : PD X K E o ht t) (hbase : attributeBase o "pop" X.env (eval o X.env) = eval o X.env := by rfl) (hline : (apos.endLine == cpos.line) = true := by rfl) (hK : X.K = K := by rfl) : PD X K E (.Call (.Attribute o "pop" apos) [] [] cpos) (tBM0 K "list" rPop ht) (dMt0 "list" popD t) :=
  y_bm0 PySem.F.plainAttrs_list PySem.F.slot_list_pop PySem.F.type_list_pop mt_pop refM_pop h0 hbase hline hK
end
/-! ### dicts that change -/
def dNewK : TD := fun _ ω q _ => q (.pin ω.length) (ω ++ [.dK []])
def dNewT : TD := fun _ ω q _ => q (.pin ω.length) (ω ++ [.dT []])
theorem StB.newC (s : StB Φ K B α H σ ρ ω T) {p : Addr} (hp : H p = none) {o : HO} {c : Cell} (hc : CellOk K (α ++ [p]) B (upd H p o) p c) : St Φ K (upd H p o) σ ρ (ω ++ [c]) ((.ref p, .pin ω.length) :: T) := by
  obtain ⟨f, w⟩ := Frame.fresh s.fr.bh s.wd hp o hc
  exact ⟨_, _, (s.step f w).push ⟨p, by rw [← s.wd.len]; simp, rfl⟩⟩
theorem y_dnewK {pos : Pos} : PD X K E (.Dict [] [] pos) tDNewK dNewK := ⟨pe_dnewK, fun Φ H σ ρ ω T q Q x ⟨B, α, sb⟩ hx k h p hp => k _ _ _ _ h (sb.newC (c := .dK []) hp ⟨sb.fr.bh.free hp, [], upd_same, .nil⟩)⟩
theorem y_dnewT {pos : Pos} : PD X K E (.Dict [] [] pos) tDNewT dNewT := ⟨pe_dnewT, fun Φ H σ ρ ω T q Q x ⟨B, α, sb⟩ hx k h p hp => k _ _ _ _ h (sb.newC (c := .dT []) hp ⟨sb.fr.bh.free hp, [], upd_same, .nil⟩)⟩
def putC (c : Cell) (d : D) (s : S) : Option Cell := match c with
  | .dK kvs => (keyOf d).map fun k => .dK (putS kvs k s)
  | .dT kvs => match d with
    | .tup ds => (keysOf ds).map fun k => .dT (putS kvs k s)
    | _ => none
  | .dP kvs => (pkeyOf d).map fun k => .dP (putS kvs k s)
  | _ => none
def sizeC : Cell → Nat
  | .dK kvs => kvs.length
  | .dT kvs => kvs.length
  | .dP kvs => kvs.length
  | .lst ss => ss.length
  | _ => 0
def putD (o i y : S) (ω : Sto) (k : Sto → Prop) : Prop := match o, i with
  | .pin j, .d d => match ω[j]? with
    | some c => match putC c d y with
      | some c' => sizeC c < 1000000 ∧ k (ω.set j c')
      | none => False
    | none => False
  | _, _ => False
theorem PVS.any {ys : List (XP.PKey × Addr × V)} {kvs : List (XP.PKey × S)} (r : Paired (fun p q => p.1 = q.1 ∧ RS K α B p.2.2 q.2) ys kvs) (k : XP.PKey) : (ys.find? fun x => decide (x.1 = k)).isSome = kvs.any fun kv => decide (kv.1 = k) := by
  induction r with
  | nil => rfl
  | @cons p q ps qs h t ih =>
    rw [List.find?_cons, List.any_cons, h.1]
    by_cases e : q.1 = k
    · simp [e]
    · simp only [e, decide_false, Bool.false_or]
      exact ih
theorem PVS.put {ys : List (XP.PKey × Addr × V)} {kvs : List (XP.PKey × S)} (r : Paired (fun p q => p.1 = q.1 ∧ RS K α B p.2.2 q.2) ys kvs) (k : XP.PKey) {b : Addr} {v : V} {s : S} (h : RS K α B v s) : Paired (fun p q => p.1 = q.1 ∧ RS K α B p.2.2 q.2) (XP.putP ys k b v) (putS kvs k s) := by
  unfold XP.putP putS
  rw [PVS.any r]
  split
  · refine paired_map (fun p q hp => ?_) r
    rw [hp.1]
    by_cases e : q.1 = k
    · rw [if_pos e, if_pos e]
      exact ⟨rfl, h⟩
    · rw [if_neg e, if_neg e]
      exact hp
  · exact paired_app r (.cons ⟨rfl, h⟩ .nil)
theorem PKeys.put {B : Hp} {ys : List (XP.PKey × Addr × V)} {k : XP.PKey} {b : Addr} {v : V} (h : XP.PKeys B ys) (eb : XP.PAt B b k) : XP.PKeys B (XP.putP ys k b v) := by
  unfold XP.putP
  split
  · refine ⟨fun x hx => ?_, ?_⟩
    · obtain ⟨y, hy, rfl⟩ := List.mem_map.mp hx
      split <;> exact h.1 y hy
    · have e : (ys.map fun x => if x.1 = k then (x.1, x.2.1, v) else x).map (·.1) = ys.map (·.1) := by
        rw [List.map_map]
        refine List.map_congr_left fun x _ => ?_
        simp only [Function.comp_apply]
        split <;> rfl
      rw [e]
      exact h.2
  · rename_i hn
    refine ⟨fun x hx => ?_, ?_⟩
    · rcases List.mem_append.mp hx with hx | hx
      · exact h.1 x hx
      · rw [List.mem_singleton.mp hx]; exact eb
    · rw [List.map_append, List.nodup_append]
      refine ⟨h.2, by simp, fun a ha c hc e => hn ?_⟩
      have e2 : c = k := by simpa using hc
      obtain ⟨x, hx, rfl⟩ := List.mem_map.mp ha
      rw [List.find?_isSome]
      exact ⟨x, hx, by simp [e, e2]⟩
theorem put_ok {v1 v2 v3 : V} {o i y : S} {k : Sto → Prop} (sb : StB Φ K B α H σ ρ ω T) (r1 : RS K α B v1 o) (r2 : RS K α B v2 i) (r3 : RS K α B v3 y) (h : putD o i y ω k) : ∃ a H', v1 = .ref a ∧ XP.DPutY w H a v2 v3 H' ∧ ∃ ω', k ω' ∧ StB Φ K B α H' σ ρ ω' T := by
  unfold putD at h
  split at h
  · rename_i j d
    cases ec : ω[j]? with
    | none => simp only [ec] at h
    | some c =>
      obtain ⟨a, rfl, ha, hc⟩ := pin_of sb r1 ec
      simp only [ec] at h
      cases ep : putC c d y with
      | none => simp only [ep] at h
      | some c' =>
        simp only [ep] at h
        unfold putC at ep
        split at ep
        · rename_i kvs
          obtain ⟨nb, ys, e, rk⟩ := hc
          obtain ⟨key, hk, rfl⟩ := Option.map_eq_some_iff.mp ep
          rw [r_key hk r2]
          exact ⟨a, _, rfl, .inl <| DPut.k e (Nat.lt_of_lt_of_le (by rw [rk.len]; exact h.1) (lineB (Nat.le_refl _))), _, h.2, sb.writeC ha nb ⟨nb, _, upd_same, rk.put r3⟩⟩
        · rename_i kvs
          split at ep
          · rename_i ds
            obtain ⟨nb, ys, e, rk⟩ := hc
            obtain ⟨key, hk, rfl⟩ := Option.map_eq_some_iff.mp ep
            obtain ⟨b, xs, rfl, hb, rb⟩ := r_tup r2
            rw [rs_keys hk rb] at hb
            exact ⟨a, _, rfl, .inl <| DPut.t e (sb.fr.bh _ _ hb) (Nat.lt_of_lt_of_le (by rw [rk.len]; exact h.1) (lineB (Nat.le_refl _))), _, h.2, sb.writeC ha nb ⟨nb, _, upd_same, rk.put r3⟩⟩
          · cases ep
        · rename_i kvs
          obtain ⟨nb, ys, e, pk, rk⟩ := hc
          obtain ⟨key, hk, rfl⟩ := Option.map_eq_some_iff.mp ep
          obtain ⟨b, rfl, eb⟩ := r_pkey hk r2
          exact ⟨a, _, rfl, .inr ⟨ys, key, b, e, pkeys_mono sb.fr.bh pk, rfl, pat_mono sb.fr.bh eb, Nat.lt_of_lt_of_le (by rw [Paired.length rk]; exact h.1) (lineB (Nat.le_refl _)), rfl⟩, _, h.2, sb.writeC ha nb ⟨nb, _, upd_same, PKeys.put pk eb, PVS.put rk key r3⟩⟩
        · cases ep
  · exact h.elim
def sDPutY (w : World) (td ty tv : TE) : TS := fun D σ H => tv σ H fun v H1 => td σ H1 fun x H2 => ty σ H2 fun y H3 => ∃ a H4, x = .ref a ∧ XP.DPutY w H3 a y v H4 ∧ D.nx σ H4
theorem ps_dputY {o i value : Expr} {td ty tv : TE} {pos' pos : Pos} (hu : X.A.units + 2 < cLine) (ho : PE X o td) (hi : PE X i ty) (hv : PE X value tv) (hs : swapsWith value (some (.Subscript o i pos')) pos.line X.env = pure false) :
    PS X (.Assign [.Subscript o i pos'] value pos) (sDPutY X.w td ty tv) := by
  refine ⟨fun pins s σ H D I h => ?_⟩
  refine wpAny_Assign_Subscript (thn (hv.run pins s σ H _ I h) fun r s1 ⟨v, H1, I1, rv, q1⟩ => thn (ho.run pins s1 σ H1 _ I1 q1) fun u s2 ⟨x, H2, I2, rx, q2⟩ => thn (hi.run pins s2 σ H2 _ I2 q2) fun iv s3 ⟨y, H3, I3, ry, a, H4, ex, g, q3⟩ => ?_) hs
  subst ex
  obtain rfl : u = Value.ref a := rx
  exact XP.dy_setItem hu I3 g ry rv fun s4 I4 => ⟨σ, H4, I4, q3⟩
def dPutS (td ty tv : TD) : TSD := fun ed ρ ω => tv ρ ω (fun y ω1 => td ρ ω1 (fun o ω2 => ty ρ ω2 (fun i ω3 => putD o i y ω3 (ed.nx ρ)) ed.x) ed.x) ed.x
theorem y_dput {o i value : Expr} {td ty tv : TD} {pos' pos : Pos} (hu : X.A.units + 2 < cLine) (h1 : PD X K E o h1t td) (h2 : PD X K E i h2t ty) (h3 : PD X K E value h3t tv) (hs : swapsWith value (some (.Subscript o i pos')) pos.line X.env = pure false := by rfl) (hw : X.w = w := by rfl) :
    PSD X K E (.Assign [.Subscript o i pos'] value pos) (sDPutY w h1t h2t h3t) (dPutS td ty tv) := by
  subst hw
  exact ⟨ps_dputY hu h1.p h2.p h3.p hs, fun Φ H σ ρ ω T En ed s l h => h3.r Φ H σ ρ ω T _ _ _ s l.x (fun y ω1 v1 H1 h st1 => h1.r Φ H1 σ ρ ω1 _ _ _ _ st1 l.x (fun o ω2 v2 H2 h st2 => h2.r Φ H2 σ ρ ω2 _ _ _ _ st2 l.x (fun i ω3 v3 H3 h ⟨B, α, sb⟩ => by
    obtain ⟨a, H', e, dp, ω', hk, sb'⟩ := put_ok sb (sb.tm (v2, o) (by simp)) (sb.tm (v3, i) (by simp)) (sb.tm (v1, y) (by simp)) h
    exact ⟨a, H', e, dp, l.nx _ _ _ _ hk (sb'.st.sub fun p hp => by simp [hp])⟩) h) h) h⟩
end
end Y

set_option Elab.async false
set_option linter.all false
set_option maxRecDepth 100000
set_option maxHeartbeats 1000000
/-! d.get(k, x), d a written dict whose keys are texts -/
namespace L2
open PySem PySem.Spec PyProof.Rows
/-- what a written dict has at a text -/
def KAt (K : PySem.W.Frag) (w : World) (a : Addr) (x : Str) (o : Option V) : Prop :=
  ∃ es n r, K.lookup a = some ⟨.type "dict", none, .dict es n, #[]⟩ ∧ PySem.W.KeysLit w.params es.toList ∧ (a == sysModules) = false ∧ PySem.W.nsIn K a x = some r ∧ RelO o r
def tKGet2 (K : PySem.W.Frag) (w : World) (td ty tx : TE) : TE := fun σ H Q => td σ H fun x H1 => ∃ a, x = .ref a ∧ (∃ y o, KAt K w a y o) ∧ ty σ H1 fun y H2 => tx σ H2 fun z H3 => ∃ k o, y = .str k ∧ KAt K w a k o ∧ Q (o.getD z) H3
section
variable {X : Cx} {o e f : Expr} {apos cpos : Pos} {td ty tx : TE}
theorem pe_kget2 (ho : PE X o td) (he : PE X e ty) (hf : PE X f tx) (m : M2 X o "get" apos e f cpos) : PE X (.Call (.Attribute o "get" apos) [e, f] [] cpos) (tKGet2 X.K X.w td ty tx) := by
  refine ⟨fun pins s σ H Q I h => ?_⟩
  refine wpAny_Call_method m.base m.few m.line PySem.F.plainAttrs_dict PySem.F.slot_dict_get PySem.F.type_dict_get (thn (ho.run pins s σ H _ I h) fun u s1 ⟨x, H1, I1, rx, a, ex, d, q1⟩ => ?_)
  subst ex
  obtain rfl : u = Value.ref a := rx
  obtain ⟨_, _, es, n, _, hl, hk, _, _, _⟩ := d
  have hm1 := PySem.W.mapOf_K (prog := X.prog) (w := X.w) I1.kIn hl hk
  refine ⟨hm1.typeIs, fun b q => ?_, ?_⟩
  · cases q
    exact ⟨_, I1.kIn _ _ hl, rfl⟩
  rw [m.trees]
  refine Calls.callWith_builtin rfl (Calls.evalArgs_plain (Calls.spliced_cons (thn (he.run pins s1 σ H1 _ I1 q1) fun iv s2 ⟨y, H2, I2, ry, q2⟩ =>
    Calls.spliced_cons (thn (hf.run pins s2 σ H2 _ I2 q2) fun fv s3 ⟨z, H3, I3, rz, k, ov, ey, g, q3⟩ => Calls.spliced_nil ?_))))
  subst ey
  obtain ⟨es2, n2, r, hl2, hk2, low, hn, ro⟩ := g
  obtain ⟨t, rfl⟩ := (show ∃ t, iv = Value.str k t from ry)
  have hm := PySem.W.mapOf_K (prog := X.prog) (w := X.w) I3.kIn hl2 hk2
  refine call_meetsIn PySem.F.slot_dict_get hm.typeIs PySem.F.entry_dict_get (PySem.F.args_dict_get_3 _ _ _) (meets_dict_get_default (strKind X.prog X.w) a (strKind_is X.prog X.w k t) low fv) ⟨_, hm, ?_⟩
  have hf' := PySem.W.find_K hl2 hn
  refine ⟨_, H3, I3.tok _, ?_, q3⟩
  show RelV (ov.getD z) ((PySem.findBy Value.isStrOf es2 k).getD fv)
  rw [hf']
  exact ro.getD rz
end
end L2

set_option Elab.async false
set_option linter.all false
set_option maxRecDepth 100000
set_option maxHeartbeats 1000000
/-! list(reversed(t)), t a tuple -/
namespace XR
open PySem PySem.Spec PyProof.Rows RT

theorem no_len : typeLookup (.type "reversed") "__len__" = pure none := by rw [typeLookup_type, builtinLookup_eq_fast]; kernel_rfl
theorem has_hint : typeLookup (.type "reversed") "__length_hint__" = pure (some (.builtin "reversed.__length_hint__")) := by rw [typeLookup_type, builtinLookup_eq_fast]; kernel_rfl
theorem slot_hint : Slot "reversed" "__length_hint__" "reversed.__length_hint__" :=
  .of (owner := "reversed") (n := "__length_hint__") has_hint (by decide +kernel) (by decide +kernel) (by decide +kernel)
    (by first | exact .inl (by decide +kernel) | exact .inr (by decide +kernel)) (by rw [isSubtype_type]; kernel_rfl)
theorem entry_hint : entryFor table "reversed.__length_hint__" = some Builtin.«reversed.__length_hint__» := entryFor_of_tree (by kernel_rfl)
theorem args_hint (a : Value) : argsOk "reversed.__length_hint__" ⟨[a], []⟩ := by
  unfold argsOk
  kernel_rfl
theorem type_hint : typeOf (.builtin "reversed.__length_hint__") = pure (.type "method_descriptor") := by kernel_rfl
theorem rtWalks {prog : Program} {w : World} {A : Around} (hh : A.handled = none) (I t : Addr) (hne : t ≠ I) (items : Array Value) (hsz : items.size ≤ sizeLine) :
    Walks prog w A I [I, t] [I] items.size (fun i v => items[items.size - 1 - i]? = some v) (fun i h => i ≤ items.size ∧ IsRt h I t ((items.size : Int) - 1 - (i : Int)) ∧ IsTup h t items) where
  sub := fun b hb => by simp at hb; simp [hb]
  frame := fun _ _ _ x hk => ⟨x.1, x.2.1.at fun o e => hk I (by simp) o e, let ⟨o, ho, r⟩ := x.2.2; ⟨o, hk t (by simp) o ho, r⟩⟩
  item := fun i s Q E hi x hQ => by
    have e : (items.size : Int) - 1 - (i : Int) = ((items.size - 1 - i : Nat) : Int) := by omega
    have hit := x.2.1
    rw [e] at hit
    have hx : items[items.size - 1 - i]? = some (items[items.size - 1 - i]'(by omega)) := Array.getElem?_eq_getElem (by omega)
    refine next_rt_item hit x.2.2 hx hsz fun h' hit' hs' => ?_
    have e2 : ((items.size - 1 - i : Nat) : Int) - 1 = (items.size : Int) - 1 - ((i + 1 : Nat) : Int) := by omega
    rw [e2] at hit'
    obtain ⟨o, ho, r⟩ := x.2.2
    exact hQ _ h' (s.toks + 1) hx ⟨hi, hit', ⟨o, (hs'.2 t hne).trans ho, r⟩⟩ fun b o hb eo => hs'.extBut b o (fun h => hb (by simp [h])) eo
  done := fun s Q E x hQ => by
    have e : (items.size : Int) - 1 - (items.size : Int) = -1 := by omega
    have hit := x.2.1
    rw [e] at hit
    exact next_rt_end hh hit fun h' he' => hQ h' s.toks fun b o hb eo => he' b o (fun h => hb (by simp [h])) eo
  self := fun _ _ _ _ x hQ => iter_rt x.2.1 hQ
section
variable {prog : Program} {w : World} {A : Around} {E : Value → Shared → Prop} {s : Shared}
theorem hint_call {it t : Addr} {items : Array Value} {Q : Value → Shared → Prop} (hit : IsRt s.heap it t ((items.size : Int) - 1)) (ht : IsTup s.heap t items) (hz : items.size ≤ sizeLine)
    (h : ∀ k tk, Q (.int (items.size : Int) k) { s with toks := tk }) : wpAny (model prog w) A (call (.builtin "reversed.__length_hint__") [.ref it]) Q E s := by
  obtain ⟨o, ho, hc, hd⟩ := id hit
  refine wpAny_call_entry slot_hint hit.typeIs entry_hint ?_ (args_hint _)
  unfold Builtin.«reversed.__length_hint__»
  refine wpAny_bind (wpAny_of_eq (a := Value.ref it) (by first | rfl | kernel_rfl) ?_)
  try dsimp only
  refine wpAny_bind (wpAny_field ho hd (x := .ref t) rfl ?_)
  show wpAny _ _ (call (.builtin "len") [.ref t] >>= _) _ _ s
  rw [sizeLine_eq] at hz
  refine wpAny_bind (PyProof.Rows.len_tuple ht (by omega) ?_)
  refine wpAny_bind (wpAny_of_eq (a := some ((items.size : Nat) : Int)) rfl ?_)
  try dsimp only
  refine wpAny_bind (wpAny_field (s := { s with toks := s.toks + 1 + 1 }) ho hd (x := rawInt ((items.size : Int) - 1)) rfl ?_)
  show wpAny _ _ (if ((items.size : Nat) : Int) < (items.size : Int) - 1 + 1 then _ else _) _ _ _
  rw [if_neg (by omega)]
  have e : (items.size : Int) - 1 + 1 = (items.size : Int) := by omega
  rw [e]
  first
    | exact wpAny_bind (wpAny_mkInt (wpAny_pure ⟨_, rfl, h _ _⟩))
    | (unfold retInt; exact wpAny_bind (wpAny_mkInt (wpAny_pure ⟨_, rfl, h _ _⟩)))
theorem extend_rt {R : Result → Shared → Prop} (hh : A.handled = none) {it t : Addr} {items : Array Value} (hit : IsRt s.heap it t ((items.size : Int) - 1)) (ht : IsTup s.heap t items) (hti : t ≠ it) (hz : items.size ≤ sizeLine)
    (S : Addr) (res : Value) (c0 : Nat) (hS : s.heap.get? S = some { cls := .type "list", data := .seq #[] c0 }) (hSi : S ≠ it) (hSt : S ≠ t)
    (hR : ∀ h' tk acc' c', (∀ b o, b ≠ S → b ≠ it → s.heap.get? b = some o → h'.get? b = some o) → h'.get? S = some { cls := .type "list", dict := none, data := .seq acc' c', slots := #[] } →
      ItemsOf (fun i v => items[items.size - 1 - i]? = some v) acc' items.size → R (.ok (.ret res)) { s with heap := h', toks := tk }) :
    wpAny (model prog w) A.in1 (Builtin.List.listExtendWith (.ref S) (.ref it) res)
      (fun fin s' => match fin with | .done f => R (.ok f) s' | .again c' => c'.quiet = true ∧ codeAny (model prog w) A c' R s') (fun e s' => R (.error e) s') s := by
  have hSf : S ∉ [it, t] := by simp only [List.mem_cons, List.not_mem_nil, or_false, not_or]; exact ⟨hSi, hSt⟩
  have hT : s.TypeIs (.ref it) "reversed" := hit.typeIs
  have W := (rtWalks (prog := prog) (w := w) (A := A.in1) hh it t hti items hz).toS
  have e0 : ((items.size : Nat) : Int) - 1 - ((0 : Nat) : Int) = (items.size : Int) - 1 := by omega
  unfold Builtin.List.listExtendWith
  refine wpAny_bind (wpAny_typeOf hT ?_)
  have h1 : Builtin.List.listSameRef (.ref S) (.ref it) = false := by simp [Builtin.List.listSameRef, hSi]
  rw [if_neg (by rw [h1]; decide)]
  refine wpAny_bind (iter_rt hit ?_)
  refine wpAny_bind (wpAny_holding ?_)
  unfold Builtin.List.listLengthHint
  refine wpAny_bind (wpAny_specialOf hT no_len ?_)
  show wpAny _ _ (specialOf (Value.ref it) (Str.ofString "__length_hint__") >>= _) _ _ _
  refine wpAny_bind (wpAny_specialOf hT has_hint ?_)
  generalize hid : ("reversed.__length_hint__" : String) = id0
  wp_delta
  rw [show splitId id0 = some ("reversed", "__length_hint__") from by subst hid; decide +kernel]
  subst hid
  refine wpAny_bind (wpAny_isInstance (b := true) hT F.sub_reversed_self ?_)
  show wpAny _ _ (rule "list.length-hint.hint" >>= _) _ _ _
  refine wpAny_bind (wpAny_rule ?_)
  have hbind : bindSpecial (.builtin "reversed.__length_hint__") (.ref it) = pure (.builtin "reversed.__length_hint__", [.ref it]) := by
    unfold bindSpecial
    rw [type_hint]
    rfl
  refine wpAny_bind (wpAny_of_eq hbind ?_)
  refine wpAny_bind (wpAny_attempt (hint_call hit ht hz fun k tk => ?_))
  show wpAny _ _ (asInt? (Value.int ((items.size : Nat) : Int) k) >>= _) _ _ _
  have ha : asInt? (Value.int ((items.size : Nat) : Int) k) = pure (some ((items.size : Nat) : Int)) := rfl
  rw [ha, pure_bind]
  rw [sizeLine_eq] at hz
  have f1 : Builtin.List.listFitsIndex ((items.size : Nat) : Int) = true := by
    unfold Builtin.List.listFitsIndex
    simp only [Bool.and_eq_true, decide_eq_true_eq]
    omega
  have f2 : Builtin.List.listTooLong (((items.size : Nat) : Int)).toNat = false := by
    unfold Builtin.List.listTooLong
    rw [sizeLine_eq]
    simp only [decide_eq_false_iff_not]
    omega
  dsimp only
  rw [if_neg (show ¬ (!Builtin.List.listFitsIndex ((items.size : Nat) : Int)) = true by rw [f1]; decide), if_neg (show ¬ ((items.size : Nat) : Int) < 0 by omega), if_neg (show ¬ Builtin.List.listTooLong (((items.size : Nat) : Int)).toNat = true by rw [f2]; decide)]
  refine wpAny_pure ?_
  have fin : ∀ (h2 : Heap), h2.get? S = some { cls := .type "list", dict := none, data := .seq #[] c0, slots := #[] } ∨ (∃ c1, h2.get? S = some { cls := .type "list", dict := none, data := .seq #[] c1, slots := #[] }) →
      (∀ b o, b ≠ S → s.heap.get? b = some o → h2.get? b = some o) →
      (fun fin s' => match fin with | .done f => R (.ok f) s' | .again c' => c'.quiet = true ∧ codeAny (model prog w) A c' R s') (PySem.Fin.again (.builtin "list.extend.loop" ⟨[.ref S, .ref it, res], []⟩)) { s with heap := h2, toks := tk } := by
    intro h2 hS2 k2
    obtain ⟨c1, hS2⟩ : ∃ c1, h2.get? S = some { cls := .type "list", dict := none, data := .seq #[] c1, slots := #[] } := by
      rcases hS2 with z | z
      · exact ⟨_, z⟩
      · exact z
    obtain ⟨ot, hot, rt⟩ := ht
    refine ⟨plainId_quiet F.plain_extend_loop _, codeAny_extend_loopS W (by rw [sizeLine_eq]; omega) S hSf res items.size 0 { s with heap := h2, toks := tk } #[] c1 rfl (Nat.zero_le _)
      ⟨Nat.zero_le _, by rw [e0]; exact hit.at fun o e => k2 it o (Ne.symm hSi) e, ⟨ot, k2 t ot (Ne.symm hSt) hot, rt⟩⟩ hS2 (ItemsOf.nil _) fun s' acc' c' hm hS' hacc => ?_⟩
    rw [Moved.eq_with hm]
    refine hR s'.heap s'.toks acc' c' (fun b o hb hb2 e => hm.heap b o (fun hmem => ?_) (k2 b o hb e)) hS' hacc
    rcases List.mem_cons.mp hmem with e' | hmem
    · exact hb e'
    · exact hb2 (List.mem_singleton.mp hmem)
  split
  · refine wpAny_bind (wpAny_rule ?_)
    refine wpAny_bind ?_
    show wpAny _ A.in1 (updateSeq S (·.push .none) >>= fun _ => updateSeq S (·.pop)) _ _ _
    refine wpAny_bind (wpAny_updateSeq (s := { s with toks := tk }) hS rfl ?_ (Nat.zero_le _) (by rw [sizeLine_eq]; show 1 ≤ _; decide))
    have hS3 := Heap.get?_update_self (Obj.mapSeq (·.push Value.none)) hS rfl
    refine wpAny_updateSeq (s := { s with heap := s.heap.update S (Obj.mapSeq (·.push Value.none)), toks := tk }) hS3 rfl ?_ (by rw [sizeLine_eq]; show 1 ≤ _; decide) (Nat.zero_le _)
    have hS4 := Heap.get?_update_self (Obj.mapSeq (·.pop)) hS3 rfl
    refine wpAny_pure (fin _ (.inr ⟨_, hS4⟩) fun b o hb e => ?_)
    exact (Heap.get?_update_other _ _ (Ne.symm hb)).trans ((Heap.get?_update_other _ _ (Ne.symm hb)).trans e)
  · exact wpAny_pure (fin s.heap (.inl hS) fun b o _ e => e)
theorem call_list_rt {Q : Value → Shared → Prop} (hh : A.handled = none) {it t : Addr} {items : Array Value} (hit : IsRt s.heap it t ((items.size : Int) - 1)) (ht : IsTup s.heap t items) (hti : t ≠ it) (hz : items.size ≤ sizeLine)
    (hQ : ∀ h' tk acc' c', (∀ b o, b ≠ it → s.heap.get? b = some o → h'.get? b = some o) →
      h'.get? s.heap.objs.size = some { cls := .type "list", dict := none, data := .seq acc' c', slots := #[] } → ItemsOf (fun i v => items[items.size - 1 - i]? = some v) acc' items.size → Q (.ref s.heap.objs.size) { s with heap := h', toks := tk }) :
    wpAny (model prog w) A (call (.type "list") [.ref it]) Q E s := by
  refine callType_codes (Q₁ := fun obj s1 => obj = .ref s.heap.objs.size ∧ s1 = { s with heap := s.heap.push { cls := .type "list", data := .seq #[] } }) F.called_list (F.typeCall_list_1 _) F.entry_list_init
    (code_list_new _ ⟨rfl, rfl⟩) fun obj s1 h1 => ?_
  obtain ⟨rfl, rfl⟩ := h1
  have hS : (s.heap.push { cls := .type "list", data := .seq #[] }).get? s.heap.objs.size = some { cls := .type "list", data := .seq #[] } := Heap.get?_push_size _ rfl
  have hS2 := Heap.get?_update_self (Obj.mapSeq (fun _ => (#[] : Array Value))) hS rfl
  have oth : ∀ b o, b ≠ s.heap.objs.size → (s.heap.push { cls := .type "list", data := .seq #[] }).get? b = some o → ((s.heap.push { cls := .type "list", data := .seq #[] }).update s.heap.objs.size (Obj.mapSeq (fun _ => (#[] : Array Value)))).get? b = some o :=
    fun b o hb e => (Heap.get?_update_other _ _ (Ne.symm hb)).trans e
  have old : ∀ b o, s.heap.get? b = some o → ((s.heap.push { cls := .type "list", data := .seq #[] }).update s.heap.objs.size (Obj.mapSeq (fun _ => (#[] : Array Value)))).get? b = some o :=
    fun b o e => oth b o (Nat.ne_of_lt (Heap.lt_size e)) (Heap.get?_push_of_some _ e)
  refine ⟨⟨_, hS, rfl⟩, F.args_list_init_2 _ _, ?_⟩
  show wpAny _ _ (do let old ← Builtin.List.listItems (.ref s.heap.objs.size); Builtin.List.listUpdate (.ref s.heap.objs.size) (fun _ => #[]); letGo old.toList.reverse; Builtin.List.listExtendWith (.ref s.heap.objs.size) (.ref it) .none) _ _ _
  refine wpAny_bind ?_
  unfold Builtin.List.listItems
  refine wpAny_bind (wpAny_seqItems hS rfl (wpAny_pure ?_))
  show wpAny _ _ (updateSeq s.heap.objs.size (fun _ => #[]) >>= fun _ => letGo (#[] : Array Value).toList.reverse >>= fun _ => Builtin.List.listExtendWith (.ref s.heap.objs.size) (.ref it) .none) _ _ _
  refine wpAny_bind (wpAny_updateSeq hS rfl ?_)
  refine wpAny_bind (wpAny_letGo ?_)
  obtain ⟨oi, hoi, ri⟩ := hit
  obtain ⟨ot, hot, rt⟩ := ht
  refine extend_rt (A := A.in1) hh ⟨oi, old _ _ hoi, ri⟩ ⟨ot, old _ _ hot, rt⟩ hti hz s.heap.objs.size .none _ hS2 (Nat.ne_of_gt (Heap.lt_size hoi)) (Nat.ne_of_gt (Heap.lt_size hot)) fun h' tk acc' c' hk hS' hacc => ?_
  exact ⟨rfl, hQ h' tk acc' c' (fun b o hb e => hk b o (Nat.ne_of_lt (Heap.lt_size e)) hb (old b o e)) hS' hacc⟩
end
end XR
namespace L2
open PySem PySem.Spec PyProof.Rows RT XR
/-- list(reversed(x)), x a tuple: a new list -/
def tListRev (K : PySem.W.Frag) (te : TE) : TE := fun σ H Q => te σ H fun v H1 => ∃ (a : Addr) (xs : List V), v = .ref a ∧ SqT K H1 a xs ∧ ∀ q, H1 q = none → Q (.ref q) (upd H1 q (.lst xs.reverse))
section
variable {X : Cx}
theorem pe_listRev {e : Expr} {te : TE} {p p2 pos pos2 : Pos} (hc : X.calm = true) (hg : Gl X "list") (hm : X.mg "list" = none) (hg2 : Gl X "reversed") (hm2 : X.mg "reversed" = none) (he : PE X e te)
    (hs : starEach [e] X.env = (false, eval e X.env) :: starEach [] X.env := by rfl)
    (hs2 : starEach [.Call (.Name "reversed" p2) [e] [] pos2] X.env = (false, eval (.Call (.Name "reversed" p2) [e] [] pos2) X.env) :: starEach [] X.env := by rfl) :
    PE X (.Call (.Name "list" p) [.Call (.Name "reversed" p2) [e] [] pos2] [] pos) (tListRev X.K te) := by
  refine ⟨fun pins s σ H Q I h => ?_⟩
  refine Call_ (ld_blt I hg hm boot_list (PyProof.Rows.callWith_type1 (args_cons (Call_ (ld_blt I hg2 hm2 PyProof.Rows.boot_reversed (PyProof.Rows.callWith_type1 (args_cons (thn (he.run pins s σ H _ I h) fun u s1 ⟨v, H1, I1, r1, q1⟩ => args_nil ?_) hs) hs rfl))) hs2) hs2 rfl))
  obtain ⟨a, xs, ev, hq, q⟩ := q1
  subst ev
  obtain rfl : u = Value.ref a := r1
  obtain ⟨its, rv, p', hz⟩ := I1.tuple hq
  have hl := rv.length
  have hn := line63
  have hsz : its.toArray.size ≤ sizeLine := by rw [List.size_toArray, ← rv.length]; exact hz
  refine call_reversed_tup p' (fun A E Q k => PyProof.Rows.len_tuple p' (by simp only [List.size_toArray] <;> omega) k) (args_nil ?_)
  have k0 : ∀ b o, s1.heap.get? b = some o → (s1.heap.push (rtObj a ((its.toArray.size : Int) - 1))).get? b = some o := fun b o e => Heap.get?_push_of_some _ e
  have I2 : Inv X pins σ H1 { s1 with heap := s1.heap.push (rtObj a ((its.toArray.size : Int) - 1)), toks := s1.toks + 1 + 1 } := I1.kept (t' := s1.toks + 1 + 1) k0
  have fp := I1.fpOk (H' := H1) (b := s1.heap.objs.size) (Nat.le_refl _) (I1.hok.fresh (Nat.le_refl _))
  have hlt : a < s1.heap.objs.size := by
    obtain ⟨o, ho, _⟩ := p'
    exact Heap.lt_size ho
  have p2' : IsTup (s1.heap.push (rtObj a ((its.toArray.size : Int) - 1))) a its.toArray := by
    obtain ⟨o, ho, r⟩ := p'
    exact ⟨o, Heap.get?_push_of_some _ ho, r⟩
  refine call_list_rt (s := { s1 with heap := s1.heap.push (rtObj a ((its.toArray.size : Int) - 1)), toks := s1.toks + 1 + 1 }) (I1.ok.hd hc) ⟨_, Heap.get?_push_size _ rfl, rfl, rfl⟩ p2' (Nat.ne_of_lt hlt) hsz fun h' tk acc c' hk hS' hi => ?_
  have r' := RT.vals_rev rv hi
  refine ⟨.ref _, upd H1 _ (.lst xs.reverse), I2.turnedNew (t' := tk) (ch := [s1.heap.objs.size]) (fun b o hb e => hk b o (fun z => hb (List.mem_singleton.mpr z)) e) (fun b hb => by rw [List.mem_singleton.mp hb]; exact fp) (Nat.le_refl _)
    (show ObjOk X.prog X.w _ _ _ (.lst xs.reverse) from ⟨by rw [List.length_reverse]; exact hz, acc.toList, c', r', by rw [Array.toArray_toList]; exact hS'⟩), rfl, q _ (I2.hok.fresh (Nat.le_refl _))⟩
end
end L2

set_option Elab.async false
set_option linter.all false
set_option maxRecDepth 100000
set_option maxHeartbeats 2000000
/-! sorted(xs), xs a list of tuples of ints of any lengths, the first of them () -/
namespace XT
open PySem PySem.Spec PyProof.Rows L2 SrtO
/-- at t stands a tuple of these ints -/
def TI (h : Heap) (v : Value) (ns : List Int) : Prop := ∃ a xs, v = .ref a ∧ IsTup h a xs ∧ IntsAre xs.toList ns
theorem TI.keeps {h h' : Heap} {v : Value} {ns : List Int} (x : TI h v ns) (k : ∀ b o, h.get? b = some o → o.cls = .type "tuple" → h'.get? b = some o) : TI h' v ns := by
  obtain ⟨a, xs, e, ⟨o, ho, hc, hd⟩, i⟩ := x
  exact ⟨a, xs, e, ⟨o, k _ _ ho hc, hc, hd⟩, i⟩
theorem lex_irr : ∀ a : List Int, HT.lexLt a a = false
  | [] => rfl
  | x :: r => by rw [HT.lexLt_cons, if_pos rfl, lex_irr r]
theorem lex_asym : ∀ a b : List Int, HT.lexLt a b = true → HT.lexLt b a = false
  | [], [], h => by cases h
  | [], _ :: _, _ => rfl
  | _ :: _, [], h => by cases h
  | x :: r, y :: q, h => by
    rw [HT.lexLt_cons] at h ⊢
    by_cases e : x = y
    · rw [if_pos e] at h
      rw [if_pos e.symm]
      exact lex_asym r q h
    · rw [if_neg e] at h
      rw [if_neg fun z => e z.symm]
      have := of_decide_eq_true h
      exact decide_eq_false (by omega)
theorem lex_neg : ∀ a b c : List Int, HT.lexLt b a = false → HT.lexLt c b = false → HT.lexLt c a = false
  | [], b, [], _, _ => rfl
  | [], b, z :: s, _, _ => rfl
  | x :: r, [], c, h, _ => by cases h
  | x :: r, y :: q, [], _, h => by cases h
  | x :: r, y :: q, z :: s, h1, h2 => by
    rw [HT.lexLt_cons] at h1 h2 ⊢
    by_cases e1 : y = x
    · rw [if_pos e1] at h1
      by_cases e2 : z = y
      · rw [if_pos e2] at h2
        rw [if_pos (e2.trans e1)]
        exact lex_neg r q s h1 h2
      · rw [if_neg e2] at h2
        rw [if_neg fun w => e2 (w.trans e1.symm)]
        have := of_decide_eq_false h2
        exact decide_eq_false (by omega)
    · rw [if_neg e1] at h1
      have g1 := of_decide_eq_false h1
      by_cases e2 : z = y
      · rw [if_pos e2] at h2
        rw [if_neg fun w => e1 (e2.symm.trans w)]
        exact decide_eq_false (by omega)
      · rw [if_neg e2] at h2
        have g2 := of_decide_eq_false h2
        by_cases e3 : z = x
        · omega
        · rw [if_neg e3]
          exact decide_eq_false (by omega)
theorem swo_ti {α : Type} (k : α → List Int) : Swo fun v u => HT.lexLt (k v) (k u) := by
  refine ⟨fun x y h => lex_asym _ _ h, fun x y z h1 h2 => ?_⟩
  exact lex_neg _ _ _ h1 h2
section
variable {prog : Program} {w : World} {A : Around} {E : Value → Shared → Prop} {s : Shared}
theorem one_ti {v u : Value} {ns ms : List Int} {Q : Bool → Shared → Prop} (h1 : TI s.heap v ns) (h2 : TI s.heap u ms) (hu : A.units < cLine) (h : Q (HT.lexLt ns ms) s) : wpAny (model prog w) A (oneLt' true v u) Q E s := by
  obtain ⟨a, xs, rfl, ⟨⟨c1, d1, dt1, sl1⟩, ho, hc, n, hd⟩, i⟩ := h1
  obtain ⟨b, ys, rfl, ⟨⟨c2, d2, dt2, sl2⟩, ho2, hc2, n2, hd2⟩, j⟩ := h2
  simp only at hc hd hc2 hd2
  subst hc hd hc2 hd2
  rw [oneLt'_eq]
  simp only [if_true]
  refine wpAny_bind (wpAny_cRoomFor hu ?_)
  refine wpAny_bind (wpAny_callSpecialIfBound?_slot (name := Str.ofString "__lt__") ⟨_, ho, rfl⟩ PySem.F.slot_tuple_lt (call_meets PySem.F.slot_tuple_lt ⟨_, ho, rfl⟩ PySem.F.entry_tuple_lt (PySem.F.args_tuple_lt_2 _ _) (HT.tuple_lt_ints a b xs ys n n2 d1 d2 sl1 sl2 ns ms i j) ⟨ho, ho2, ?_⟩))
  exact wpAny_truthy_bool h
theorem cmp_ti {vs : List Value} {k : Value → List Int} (hu : A.units < cLine) (hp : ∀ v ∈ vs, TI s.heap v (k v)) : Cmp prog w A s oneType' (fun p => p.1 ∈ vs) (lt2 fun v u => HT.lexLt (k v) (k u)) := by
  intro p q hm hm'
  rw [keyLt'_oneType]
  exact one_ti (hp _ hm) (hp _ hm') hu ⟨rfl, rfl⟩
theorem firsts_ti : ∀ (vs : List Value) (nss : List (List Int)) {Q : List (Option Value) → Shared → Prop}, (∀ (i : Nat) (v : Value) (ns : List Int), vs[i]? = some v → nss[i]? = some ns → TI s.heap v ns) → vs.length = nss.length →
    (∀ fs : List (Option Value), fs.length = vs.length → (∀ ns r, nss = ns :: r → ns = [] → ∃ q, fs = none :: q) → Q fs s) → wpAny (model prog w) A (vs.mapM firstOfTuple') Q E s
  | [], [], Q, _, _, h => by
    rw [List.mapM_nil]
    exact wpAny_pure (h [] rfl fun ns r e => by cases e)
  | [], _ :: _, _, _, hl, _ => by cases hl
  | _ :: _, [], _, _, hl, _ => by cases hl
  | v :: vs, ns :: nss, Q, hx, hl, h => by
    obtain ⟨a, xs, rfl, ⟨o, ho, hc, n, hd⟩, i⟩ := hx 0 v ns rfl rfl
    rw [List.mapM_cons]
    refine wpAny_bind ?_
    rw [PySem.W.kas_first_eq]
    refine wpAny_bind (PySem.W.Looks.here (show PySem.W.Looks (model prog w) s.heap (typeOf (.ref a)) o.cls from (PySem.W.Looks.ld ho).andThen .now) ?_)
    rw [hc, if_neg (by first | decide | simp)]
    refine wpAny_bind (listItems_at ho hd (wpAny_pure ?_))
    refine wpAny_bind (firsts_ti vs nss (fun i v ns e1 e2 => hx (i + 1) v ns e1 e2) (by simpa using hl) fun fs hf _ => wpAny_pure (h (xs[0]? :: fs) (by simp [hf]) fun ns' r' e e0 => ?_))
    injection e with e1 e2
    subst e1
    rw [e0] at i
    refine ⟨fs, ?_⟩
    have : xs.toList.length = 0 := i.length
    have hz : xs[0]? = none := Array.getElem?_eq_none (by rw [Array.length_toList] at this; omega)
    rw [hz]
theorem kind_ti {v0 : Value} {vs : List Value} {k : Value → List Int} {Q : SortKind → Shared → Prop} (hp : ∀ v ∈ v0 :: vs, TI s.heap v (k v)) (h0 : k v0 = []) (h : Q oneType' s) : wpAny (model prog w) A (keyKind' (v0 :: vs).toArray) Q E s := by
  rw [kat_kind_eq, List.mapM_toArray, map_eq_pure_bind]
  refine wpAny_bind (wpAny_bind (firsts_ti (v0 :: vs) ((v0 :: vs).map k) (fun i v ns e1 e2 => ?_) (by simp) fun fs hf h1 => wpAny_pure ?_))
  · rw [List.getElem?_map, e1] at e2
    obtain rfl : k v = ns := Option.some.inj e2
    exact hp v (List.mem_of_getElem? e1)
  · obtain ⟨q, rfl⟩ := h1 (k v0) (vs.map k) rfl h0
    have a1 : ((none :: q : List (Option Value)).toArray.all fun x => x.isSome) = false := by simp
    rw [a1, if_neg Bool.false_ne_true]
    have a2 : (((none :: q : List (Option Value)).toArray[0]?).bind id).isSome = false := by simp
    rw [a2, if_neg Bool.false_ne_true]
    rw [oneTypeOnly'_eq, List.mapM_toArray, map_eq_pure_bind]
    refine wpAny_bind (wpAny_bind (wpAny_bind (PySem.W.kas_mapM (r := Value.type "tuple") _ (fun v hv Q' hq => ?_) (wpAny_pure ?_))))
    · obtain ⟨a, xs, rfl, ⟨o, ho, hc, n, hd⟩, i⟩ := hp v hv
      refine PySem.W.Looks.here (show PySem.W.Looks (model prog w) s.heap (typeOf (.ref a)) o.cls from (PySem.W.Looks.ld ho).andThen .now) ?_
      rw [hc]
      exact hq
    · have a3 : ((List.map (fun _ => Value.type "tuple") (v0 :: vs)).toArray.all fun x => x == Value.type "tuple") = true := by
        simp
      have a4 : (List.map (fun _ => Value.type "tuple") (v0 :: vs)).toArray[0]? = some (Value.type "tuple") := by simp
      rw [a4]
      try dsimp only
      rw [a3, if_pos rfl]
      exact wpAny_pure (wpAny_pure h)
theorem sortable_ti {a : Addr} {vs : List Value} {k : Value → List Int} (hu : A.units < cLine) (hp : ∀ v ∈ vs, TI s.heap v (k v)) (h0 : ∃ v0 r, vs = v0 :: r ∧ k v0 = []) (ha : ∀ o, s.heap.get? a = some o → o.cls ≠ .type "tuple") : SortableO prog w A s a vs fun v u => HT.lexLt (k v) (k u) := by
  intro h' keep
  have hp' : ∀ v ∈ vs, TI h' v (k v) := fun v hm => (hp v hm).keeps fun b o e c => keep b o (fun z => by subst z; exact ha o e c) e
  obtain ⟨v0, r, rfl, e0⟩ := h0
  exact ⟨oneType', fun Q E hq => kind_ti (s := { s with heap := h' }) hp' e0 hq, cmp_ti (s := { s with heap := h' }) hu hp'⟩
end
end XT
namespace L2
open PySem PySem.Spec PyProof.Rows
/-- sorted(xs), xs a list of tuples of ints, the first of them (): a new list, sorted, equal ones in their order -/
def rSortTI (K : PySem.W.Frag) : List V → Hp → VK → Prop := fun vs H Q => ∃ (a : Addr) (xs : List V) (k : V → List Int), vs = [V.ref a] ∧ SqL K H a xs ∧ (∀ x ∈ xs, ∃ t, x = V.ref t ∧ H t = some (.tup ((k x).map V.int))) ∧ (∀ x0 r, xs = x0 :: r → k x0 = []) ∧
  ∀ ys p, SrtO.Srtd (fun x y => HT.lexLt (k x) (k y)) ys → SrtO.Stb (fun x y => HT.lexLt (k x) (k y)) ys xs → H p = none → Q (.ref p) (upd H p (.lst ys))
section
variable {X : Cx}
theorem cr_sortTI (hu : X.A.in1.in1.units < cLine) : CallR X (.builtin "sorted") (rSortTI X.K) := by
  intro pins s σ H vs us Q I r h
  obtain ⟨a, xs, k, rfl, hs, hx, h0, q⟩ := h
  obtain ⟨its, rv, hl, hz⟩ := I.list hs
  obtain ⟨u, rfl, ru⟩ := vals1 r
  obtain rfl : u = Value.ref a := ru
  obtain ⟨e1, e2⟩ := refs_back rv fun x m => by
    obtain ⟨t, e, _⟩ := hx x m
    exact ⟨t, e⟩
  have ti : ∀ v ∈ its, XT.TI s.heap v (k (backV v)) := fun v hv => by
    obtain ⟨t, rfl⟩ := e2 v hv
    have hm : V.ref t ∈ xs := by rw [e1]; exact List.mem_map.mpr ⟨_, hv, rfl⟩
    obtain ⟨t', e, ht⟩ := hx _ hm
    cases e
    obtain ⟨its2, r2, p2, _⟩ := I.tuple (SqT.of ht)
    exact ⟨t, its2.toArray, rfl, p2, intsAre_of r2⟩
  refine SrtO.sorted_ord (XT.swo_ti fun u => k (backV u)) hl.isList (by rw [← rv.length]; exact hz) (fun h2 h₁ a' ha kk => ?_) fun out h1 h2 => ?_
  · refine XT.sortable_ti (s := { s with heap := h₁ }) hu (fun v hm => (ti v hm).keeps fun b o e _ => (kk b o e).2) ?_ fun o e => ?_
    · cases its with
      | nil => simp at h2
      | cons v0 r => exact ⟨v0, r, rfl, h0 (backV v0) (r.map backV) e1⟩
    · have e' : some o = some (seqObj "list" its.toArray 0) := e.symm.trans ha
      cases e'
      intro c
      exact absurd (Value.type.inj c) (by decide)
  · have h3 : ∀ u ∈ out, ∃ a, u = Value.ref a := fun u hu => e2 u (h2.perm.mem_iff.mp hu)
    obtain ⟨n, hn⟩ := PyProof.Rows.sortedAll_at s.heap its out.toArray
    have hb : SrtO.Stb (fun x y => HT.lexLt (k x) (k y)) (out.map backV) xs := by
      rw [e1]
      exact SrtO.Stb.map (XT.swo_ti k) backV h2
    refine ⟨.ref (s.heap.objs.size + 1), upd H (s.heap.objs.size + 1) (.lst (out.map backV)), I.laid (t' := s.toks) (fun b o e => PyProof.Rows.sortedAll_old e) (Nat.le_succ _) ⟨?_, out, n, vals_back h3, hn⟩, rfl, q _ _ (SrtO.srtd_map h1) hb (I.hok.fresh (Nat.le_succ _))⟩
    rw [hb.len]
    exact hz
end
end L2
namespace L2
theorem in2_units {k : Nat} {A : PySem.Around} (hr : Room k A) : A.in1.in1.units < PySem.cLine := by
  have := hr.units
  show A.units + 1 + 1 < PySem.cLine
  omega
end L2

set_option Elab.async false
set_option linter.all false
set_option maxRecDepth 100000
set_option maxHeartbeats 2000000
namespace Y
open PySem PySem.Spec PyProof.Rows L2 StX
variable {w : World} [Tb w]
section
variable {K : PySem.W.Frag} {X : Cx} {E : XK}
variable {Φ : Phi} {B : Hp} {α : List Addr} {H : Hp} {σ : L2.St} {ρ : Env} {ω : Sto} {T : List (V × S)}
/-! ### stars -/
def spreadS (s : S) (ω : Sto) : Option (List S) := match s with
  | .d (.tup ds) => some (ds.map .d)
  | .d (.ktup ds) => some (ds.map .d)
  | .d (.lst ds) => some (ds.map .d)
  | .pin j => match ω[j]? with
    | some (.lst ss) => some ss
    | _ => none
  | _ => none
def dStar (t : TD) (u : TAD) : TAD := fun ρ ω q x => t ρ ω (fun s ω1 => match spreadS s ω1 with | some ys => u ρ ω1 (fun ss ω2 => q (ys ++ ss) ω2) x | none => False) x
theorem spread_ok {v : V} {s : S} {ys : List S} (sb : StB Φ K B α H σ ρ ω T) (r : RS K α B v s) (h : spreadS s ω = some ys) : ∃ p xs, v = .ref p ∧ (SqT K H p xs ∨ SqL K H p xs) ∧ Paired (RS K α B) xs ys := by
  unfold spreadS at h
  split at h
  · cases h
    obtain ⟨a, xs, e, ha, ra⟩ := r_tup r
    exact ⟨a, xs, e, .inl (SqT.of (sb.fr.bh _ _ ha)), rs_pairA ra⟩
  · cases h
    obtain ⟨a, xs, e, ha, ra⟩ := r_ktup r
    exact ⟨a, xs, e, .inl (sameT sb.fr.bh ha), rs_pairA ra⟩
  · cases h
    obtain ⟨a, xs, e, ha, ra⟩ := r_lst r
    exact ⟨a, xs, e, .inr (SqL.of (sb.fr.bh _ _ ha)), rs_pairA ra⟩
  · split at h
    · rename_i e
      cases h
      obtain ⟨a, rfl, ha, _, xs, ex, rp⟩ := pin_of sb r e
      exact ⟨a, xs, rfl, .inr (SqL.of ex), rp⟩
    · cases h
  · cases h
theorem zip_mem {F : V → S → Prop} : ∀ {xs : List V} {ys : List S}, Paired F xs ys → ∀ p ∈ xs.zip ys, F p.1 p.2
  | _, _, .nil, p, h => by simp at h
  | _, _, .cons h t, p, hp => by
    rw [List.zip_cons_cons, List.mem_cons] at hp
    rcases hp with rfl | hp
    · exact h
    · exact zip_mem t p hp
theorem StB.pushes (s : StB Φ K B α H σ ρ ω T) {xs : List V} {ys : List S} (h : Paired (RS K α B) xs ys) : StB Φ K B α H σ ρ ω (xs.zip ys ++ T) := ⟨s.fr, s.wd, s.sl, fun p hp => by
  rcases List.mem_append.mp hp with hp | hp
  · exact zip_mem h p hp
  · exact s.tm p hp⟩
theorem ya_star {e : Expr} {es : List Expr} {t : TD} {u : TAD} {p : Pos} (h1 : PD X K E e h1t t) (h2 : PAD X K E es h2t u) (hs : starEach (.Starred e p :: es) X.env = (true, eval e X.env) :: starEach es X.env := by rfl) (hK : X.K = K := by rfl) : PAD X K E (.Starred e p :: es) (tStar K h1t h2t) (dStar t u) := by
  subst hK
  exact ⟨pa_star h1.p h2.p hs, fun Φ H σ ρ ω T q Q x s hx k h => h1.r Φ H σ ρ ω T _ _ x s hx (fun y ω1 v H1 h ⟨B, α, sb⟩ => by
    cases e1 : spreadS y ω1 with
    | none => simp only [e1] at h
    | some ys =>
      simp only [e1] at h
      obtain ⟨p, xs, rfl, hq, rp⟩ := spread_ok sb (sb.tm (v, y) List.mem_cons_self) e1
      refine ⟨p, xs, rfl, hq, h2.r Φ H1 σ ρ ω1 _ _ _ x (sb.pushes rp).st hx (fun ss ω2 vs H2 h l st => k _ _ _ _ h (by rw [List.length_append, List.length_append, l, Paired.length rp]) (st.sub fun p hp => ?_)) h⟩
      rw [List.zip_append (Paired.length rp)] at hp
      simp only [List.mem_append, List.mem_cons] at hp ⊢
      rcases hp with (hp | hp) | hp
      · exact .inr (.inl hp)
      · exact .inl hp
      · exact .inr (.inr (.inr hp))) h⟩
/-! ### -x -/
def dUn (f : S → Sto → (S → Sto → Prop) → Prop) (t : TD) : TD := fun ρ ω q x => t ρ ω (fun s ω1 => f s ω1 q) x
def negD : S → Sto → (S → Sto → Prop) → Prop := fun s ω q => match s with | .d (.int i) => q (.d (.int (-i))) ω | _ => False
theorem y_neg {a : Expr} {t : TD} {pos : Pos} (h : PD X K E a ht t) : PD X K E (.UnaryOp .USub a pos) (tUn (rU fun i => .int (-i)) ht) (dUn negD t) := ⟨pe_un un_neg h.p, fun Φ H σ ρ ω T q Q x s hx k hh => h.r Φ H σ ρ ω T _ _ x s hx (fun s1 ω1 v H1 h st => by
  unfold negD at h
  split at h
  · obtain ⟨B, α, sb⟩ := st
    exact ⟨_, r_int (sb.tm _ List.mem_cons_self), k _ _ _ _ h ((sb.st.sub fun p hp => List.mem_cons_of_mem _ hp).push fun _ => .int _)⟩
  · exact h.elim) hh⟩
/-! ### is, of truths -/
def isBD : FO := fun s1 s2 ω q => match s1, s2 with
  | .d (.bl a), .d (.bl b) => q (.d (.bl (decide (a = b)))) ω
  | _, _ => False
theorem refO_isTr : RefO K rIsB isBD := fun Φ H σ ρ ω T v1 v2 s1 s2 q Q s m1 m2 k h => by
  unfold isBD at h
  obtain ⟨B, α, sb⟩ := s
  split at h
  · exact ⟨_, _, r_bl (sb.tm _ m1), r_bl (sb.tm _ m2), k _ _ _ _ h (sb.st.push fun _ => .bl _)⟩
  · exact h.elim
theorem op_isTr : OpR X (compareOp .Is) rIsB := op_isBl
/-! ### int(x), abs(x), dict(x) -/
theorem refC_int : RefC K (fun xs H Q => (∃ i, xs = [.int i] ∧ Q (.int i) H) ∨ ∃ k, xs = [.bl k] ∧ Q (.int (if k then 1 else 0)) H) intD := fun Φ B α H σ ρ ω T vs ss q Q sb rr m k h => by
  unfold intD at h
  split at h
  · obtain ⟨v, rfl, r⟩ := pair1 rr
    rw [show v = .int _ from r_int r]
    exact .inl ⟨_, rfl, k _ _ _ _ h (sb.st.push fun _ => .int _)⟩
  · obtain ⟨v, rfl, r⟩ := pair1 rr
    rw [show v = .bl _ from r_bl r]
    exact .inr ⟨_, rfl, k _ _ _ _ h (sb.st.push fun _ => .int _)⟩
  · exact h.elim
theorem refC_abs : RefC K (fun xs H Q => ∃ i, xs = [.int i] ∧ Q (.int (if i < 0 then -i else i)) H) absD := fun Φ B α H σ ρ ω T vs ss q Q sb rr m k h => by
  unfold absD at h
  split at h
  · obtain ⟨v, rfl, r⟩ := pair1 rr
    rw [show v = .int _ from r_int r]
    exact ⟨_, rfl, k _ _ _ _ h (sb.st.push fun _ => .int _)⟩
  · exact h.elim
def dictC : CB := fun ss ω q => match ss with
  | [.pin j] => match ω[j]? with
    | some (.dK kvs) => q (.pin ω.length) (ω ++ [.dK kvs])
    | _ => False
  | _ => False
theorem RK.mono {κ : Type} {α β : List Addr} {B B' : Hp} (g : Same B B') {ys : List (κ × V)} {kvs : List (κ × S)} (h : RK K α B ys kvs) : RK K (α ++ β) B' ys kvs := paired_mono (fun _ _ h => ⟨h.1, RS.mono g h.2⟩) h
theorem refC_dict : RefC K (fun xs H Q => ∃ (a : Addr) (kvs : List (Key × V)), xs = [.ref a] ∧ Rd H a (.dK kvs) ∧ ∀ p, H p = none → Q (.ref p) (upd H p (.dK kvs))) dictC := fun Φ B α H σ ρ ω T vs ss q Q sb rr m k h => by
  unfold dictC at h
  split at h
  · obtain ⟨v, rfl, r⟩ := pair1 rr
    split at h
    · rename_i e
      obtain ⟨a, rfl, ha, _, ys, ey, rk⟩ := pin_of sb r e
      exact ⟨a, ys, rfl, .inl ey, fun p hp => k _ _ _ _ h (sb.newC (c := .dK _) hp ⟨sb.fr.bh.free hp, _, upd_same, rk.mono (Same.refl _)⟩)⟩
    · exact h.elim
  · exact h.elim
section
variable {p pos : Pos} {e : Expr} {u : TAD}
theorem y_intC (b : Bu X.mg) (ha : PAD X K E [e] ht u) (hg : Gl X "int" := by rfl) (he : starEach [e] X.env = (false, eval e X.env) :: starEach [] X.env := by rfl) : PD X K E (.Call (.Name "int" p) [e] [] pos) (tCB (fun xs H Q => (∃ i, xs = [.int i] ∧ Q (.int i) H) ∨ ∃ k, xs = [.bl k] ∧ Q (.int (if k then 1 else 0)) H) ht) (dB intD u) :=
  y_bty call_int1 refC_int b.int (by decide +kernel) ha hg (he := he) (hpl := rfl)
theorem y_absC (b : Bu X.mg) (ha : PAD X K E [e] ht u) (hg : Gl X "abs" := by rfl) (he : starEach [e] X.env = (false, eval e X.env) :: starEach [] X.env := by rfl) : PD X K E (.Call (.Name "abs" p) [e] [] pos) (tCB (fun xs H Q => ∃ i, xs = [.int i] ∧ Q (.int (if i < 0 then -i else i)) H) ht) (dB absD u) :=
  y_blt call_abs refC_abs b.abs (by decide +kernel) ha hg (he := he) (hpl := rfl)
theorem y_dictC (b : Bu X.mg) (ha : PAD X K E [e] ht u) (hg : Gl X "dict" := by rfl) (he : starEach [e] X.env = (false, eval e X.env) :: starEach [] X.env := by rfl) : PD X K E (.Call (.Name "dict" p) [e] [] pos) (tCB (fun xs H Q => ∃ (a : Addr) (kvs : List (Key × V)), xs = [.ref a] ∧ Rd H a (.dK kvs) ∧ ∀ p, H p = none → Q (.ref p) (upd H p (.dK kvs))) ht) (dB dictC u) :=
  y_bty call_dictD refC_dict b.dict (by decide +kernel) ha hg (he := he) (hpl := rfl)
end
/-! ### sorted(paths) -/
def pathD (p : List Int) : D := .tup (p.map .int)
def sortTD : CB := fun ss ω q => match ss with
  | [s] => lstOf s ω fun ds => ∃ ps : List (List Int), ds = ps.map pathD ∧ (∀ p0 r, ps = p0 :: r → p0 = []) ∧ ∀ zs : List (List Int), SrtO.Srtd HT.lexLt zs → zs.Perm ps → q (.d (.lst (zs.map pathD))) ω
  | _ => False
theorem rs_int_back {B : Hp} : ∀ {ns : List Int} {vs : List V}, Rs K B vs (ns.map .int) → vs = ns.map V.int
  | [], _, .nil => rfl
  | n :: ns, _, .cons r t => by rw [List.map_cons, r_int r, rs_int_back t]
theorem int_inj : ∀ {ns ms : List Int}, ns.map V.int = ms.map V.int → ns = ms
  | [], [], _ => rfl
  | n :: ns, m :: ms, h => by
    rw [List.map_cons, List.map_cons] at h
    cases (List.cons.inj h).1
    rw [int_inj (List.cons.inj h).2]
  | [], _ :: _, h => by simp at h
  | _ :: _, [], h => by simp at h
theorem r_path {B : Hp} {v : V} {p : List Int} (h : R K B v (pathD p)) : ∃ a, v = .ref a ∧ B a = some (.tup (p.map V.int)) := by
  obtain ⟨a, xs, e, ha, ra⟩ := r_tup h
  rw [rs_int_back ra] at ha
  exact ⟨a, e, ha⟩
theorem path_inj {B : Hp} {v : V} {p r : List Int} (h1 : R K B v (pathD p)) (h2 : R K B v (pathD r)) : p = r := by
  obtain ⟨a, e, ha⟩ := r_path h1
  obtain ⟨b, e2, hb⟩ := r_path h2
  rw [e] at e2
  cases e2
  rw [ha] at hb
  exact int_inj (HO.tup.inj (Option.some.inj hb))
theorem rs_paths {B : Hp} {k : V → List Int} : ∀ {vs : List V} {ps : List (List Int)}, Rs K B vs (ps.map pathD) → (∀ v p, R K B v (pathD p) → k v = p) → ps = vs.map k ∧ ∀ v ∈ vs, R K B v (pathD (k v))
  | [], [], .nil, _ => ⟨rfl, by simp⟩
  | v :: vs, p :: ps, .cons r t, h => by
    obtain ⟨e, f⟩ := rs_paths t h
    rw [List.map_cons, ← e, h v p r]
    refine ⟨rfl, fun u hu => ?_⟩
    rcases List.mem_cons.mp hu with rfl | hu
    · rw [h _ p r]; exact r
    · exact f u hu
theorem rs_of_mem {B : Hp} {k : V → List Int} : ∀ {vs : List V}, (∀ v ∈ vs, R K B v (pathD (k v))) → Rs K B vs ((vs.map k).map pathD)
  | [], _ => .nil
  | v :: vs, h => .cons (h v (by simp)) (rs_of_mem fun u hu => h u (by simp [hu]))
theorem refC_sortT : RefC K (rSortTI K) sortTD := fun Φ B α H σ ρ ω T vs ss q Q sb rr m k h => by
  classical
  unfold sortTD at h
  split at h
  · obtain ⟨v, rfl, r⟩ := pair1 rr
    obtain ⟨a, xs, ds, rfl, ex, rs, ps, rfl, h0, h⟩ := lst_of sb r h
    let key : V → List Int := fun v => if h : ∃ p, R K B v (pathD p) then h.choose else []
    have hkey : ∀ v p, R K B v (pathD p) → key v = p := fun v p hr => by
      have hx : ∃ p, R K B v (pathD p) := ⟨p, hr⟩
      show (if h : ∃ p, R K B v (pathD p) then h.choose else []) = p
      rw [dif_pos hx]
      exact path_inj hx.choose_spec hr
    obtain ⟨e1, e2⟩ := rs_paths rs hkey
    refine ⟨a, xs, key, rfl, SqL.of ex, fun x hx => ?_, fun x0 r0 er => ?_, fun ys p h1 h2 hp => ?_⟩
    · obtain ⟨t, et, ht⟩ := r_path (e2 x hx)
      exact ⟨t, et, sb.fr.bh _ _ ht⟩
    · subst er
      exact h0 _ _ e1
    · have hm : ∀ v ∈ ys, R K B v (pathD (key v)) := fun v hv => e2 v (h2.perm.mem_iff.mp hv)
      refine k _ _ _ _ (h (ys.map key) (SrtO.srtd_map h1) ?_) (sb.lstD hp (rs_of_mem hm))
      rw [e1]
      exact h2.perm.map key
  · exact h.elim
theorem y_sortedT {p pos : Pos} {e : Expr} {u : TAD} (b : Bu X.mg) (hu : X.A.in1.in1.units < cLine) (ha : PAD X K E [e] ht u) (hg : Gl X "sorted" := by rfl) (he : starEach [e] X.env = (false, eval e X.env) :: starEach [] X.env := by rfl) (hK : X.K = K := by rfl) : PD X K E (.Call (.Name "sorted" p) [e] [] pos) (tCB (rSortTI K) ht) (dB sortTD u) := by
  subst hK
  exact y_blt (cr_sortTI hu) refC_sortT b.sorted (by decide +kernel) ha hg (he := he) (hpl := rfl)
/-! ### list(reversed(tuple)) -/
def revD : S → Sto → (S → Sto → Prop) → Prop := fun s ω q => match s with
  | .d (.tup ds) => q (.d (.lst ds.reverse)) ω
  | .d (.ktup ds) => q (.d (.lst ds.reverse)) ω
  | _ => False
theorem y_listRev {e : Expr} {t : TD} {p p2 pos pos2 : Pos} (b : Bu X.mg) (hc : X.calm = true) (h0 : PD X K E e ht t) (hg : Gl X "list" := by rfl) (hg2 : Gl X "reversed" := by rfl)
    (hs : starEach [e] X.env = (false, eval e X.env) :: starEach [] X.env := by rfl)
    (hs2 : starEach [.Call (.Name "reversed" p2) [e] [] pos2] X.env = (false, eval (.Call (.Name "reversed" p2) [e] [] pos2) X.env) :: starEach [] X.env := by rfl) (hK : X.K = K := by rfl) :
    PD X K E (.Call (.Name "list" p) [.Call (.Name "reversed" p2) [e] [] pos2] [] pos) (tListRev K ht) (dUn revD t) := by
  subst hK
  exact ⟨pe_listRev hc hg b.list hg2 b.reversed h0.p hs hs2, fun Φ H σ ρ ω T q Q x s hx k hh => h0.r Φ H σ ρ ω T _ _ x s hx (fun s1 ω1 v H1 h ⟨B, α, sb⟩ => by
    unfold revD at h
    split at h
    · obtain ⟨a, xs, e, ha, ra⟩ := r_tup (sb.tm _ List.mem_cons_self)
      exact ⟨a, xs, e, SqT.of (sb.fr.bh _ _ ha), fun l hl => k _ _ _ _ h (drop_mid (U := [_]) (sb.lstD hl ra.reverse))⟩
    · obtain ⟨a, xs, e, ha, ra⟩ := r_ktup (sb.tm _ List.mem_cons_self)
      exact ⟨a, xs, e, sameT sb.fr.bh ha, fun l hl => k _ _ _ _ h (drop_mid (U := [_]) (sb.lstD hl ra.reverse))⟩
    · exact h.elim) hh⟩
/-! ### for x in reversed(..) -/
theorem walk_v {a : Addr} {n : Nat} : Walk (Itv K a n) n (fun H => ∃ xs, SqL K H a xs ∧ xs.length = n) (Itv K a n).yld :=
  ⟨fun i H hi ⟨xs, h, e⟩ => ⟨hi, xs, xs[n - 1 - i]'(by omega), h, List.getElem?_eq_getElem (by omega)⟩, fun H _ => Nat.le_refl _, fun _ _ _ _ _ _ y => y⟩
theorem walk_vT {a : Addr} {n : Nat} : Walk (RT.ItvT K a n) n (fun H => ∃ xs, SqT K H a xs ∧ xs.length = n) (RT.ItvT K a n).yld :=
  ⟨fun i H hi ⟨xs, h, e⟩ => ⟨hi, xs, xs[n - 1 - i]'(by omega), h, List.getElem?_eq_getElem (by omega)⟩, fun H _ => Nat.le_refl _, fun _ _ _ _ _ _ y => y⟩
theorem rev_get {β : Type} {l : List β} {i : Nat} (hi : i < l.reverse.length) : ∃ d, l[l.length - 1 - i]? = some d ∧ l.reverse[i]? = some d := by
  rw [List.length_reverse] at hi
  refine ⟨l[l.length - 1 - i], List.getElem?_eq_getElem (by omega), ?_⟩
  rw [List.getElem?_reverse hi]
  exact List.getElem?_eq_getElem (by omega)
theorem it_rtup {a : Addr} {ds : List D} : ItD K (RT.ItvT K a ds.length) [(.ref a, .d (.tup ds))] (fun _ => True) (ds.map S.d).reverse := by
  have hl : (ds.map S.d).reverse.length = ds.length := by simp
  refine ⟨_, _, by rw [hl]; exact walk_vT, fun Φ H σ ρ ω T st m _ => ?_⟩
  obtain ⟨B, α, sb⟩ := st
  obtain ⟨a', xs, e, ha, ra⟩ := r_tup (sb.tm (.ref a, .d (.tup ds)) (m _ (by simp)))
  cases e
  have hs := SqT.of (K := K) (sb.fr.bh _ _ ha)
  refine ⟨⟨xs, hs, ra.len⟩, fun i x H' hi y => ?_⟩
  obtain ⟨rfl, y⟩ := y
  obtain ⟨s, e1, e2⟩ := rev_get hi
  rw [List.length_map, List.getElem?_map] at e1
  obtain ⟨d, e3, rfl⟩ := Option.map_eq_some_iff.mp e1
  obtain ⟨v, ev, rv⟩ := ra.get e3
  obtain rfl : x = v := Option.some.inj ((y xs hs).symm.trans ev)
  exact ⟨_, e2, (sb.pushD rv).st⟩
theorem it_rktup {a : Addr} {ds : List D} : ItD K (RT.ItvT K a ds.length) [(.ref a, .d (.ktup ds))] (fun _ => True) (ds.map S.d).reverse := by
  have hl : (ds.map S.d).reverse.length = ds.length := by simp
  refine ⟨_, _, by rw [hl]; exact walk_vT, fun Φ H σ ρ ω T st m _ => ?_⟩
  obtain ⟨B, α, sb⟩ := st
  obtain ⟨a', xs, e, ha, ra⟩ := r_ktup (sb.tm (.ref a, .d (.ktup ds)) (m _ (by simp)))
  cases e
  have hs := sameT sb.fr.bh ha
  refine ⟨⟨xs, hs, ra.len⟩, fun i x H' hi y => ?_⟩
  obtain ⟨rfl, y⟩ := y
  obtain ⟨s, e1, e2⟩ := rev_get hi
  rw [List.length_map, List.getElem?_map] at e1
  obtain ⟨d, e3, rfl⟩ := Option.map_eq_some_iff.mp e1
  obtain ⟨v, ev, rv⟩ := ra.get e3
  obtain rfl : x = v := Option.some.inj ((y xs hs).symm.trans ev)
  exact ⟨_, e2, (sb.pushD rv).st⟩
theorem it_rlst {a : Addr} {ds : List D} : ItD K (Itv K a ds.length) [(.ref a, .d (.lst ds))] (fun _ => True) (ds.map S.d).reverse := by
  have hl : (ds.map S.d).reverse.length = ds.length := by simp
  refine ⟨_, _, by rw [hl]; exact walk_v, fun Φ H σ ρ ω T st m _ => ?_⟩
  obtain ⟨B, α, sb⟩ := st
  obtain ⟨a', xs, e, ha, ra⟩ := r_lst (sb.tm (.ref a, .d (.lst ds)) (m _ (by simp)))
  cases e
  have hs := SqL.of (K := K) (sb.fr.bh _ _ ha)
  refine ⟨⟨xs, hs, ra.len⟩, fun i x H' hi y => ?_⟩
  obtain ⟨rfl, y⟩ := y
  obtain ⟨s, e1, e2⟩ := rev_get hi
  rw [List.length_map, List.getElem?_map] at e1
  obtain ⟨d, e3, rfl⟩ := Option.map_eq_some_iff.mp e1
  obtain ⟨v, ev, rv⟩ := ra.get e3
  obtain rfl : x = v := Option.some.inj ((y xs hs).symm.trans ev)
  exact ⟨_, e2, (sb.pushD rv).st⟩
theorem it_rpin {a : Addr} {j : Nat} {ss : List S} : ItD K (Itv K a ss.length) [(.ref a, .pin j)] (fun ω => ω[j]? = some (.lst ss)) ss.reverse := by
  have hl : ss.reverse.length = ss.length := by simp
  refine ⟨_, _, by rw [hl]; exact walk_v, fun Φ H σ ρ ω T st m hp => ?_⟩
  obtain ⟨B, α, sb⟩ := st
  obtain ⟨a', e, ha, _, xs, ex, rp⟩ := sb.cell (m (.ref a, .pin j) (by simp)) hp
  cases e
  have hs := SqL.of (K := K) ex
  refine ⟨⟨xs, hs, Paired.length rp⟩, fun i x H' hi y => ?_⟩
  obtain ⟨rfl, y⟩ := y
  obtain ⟨s, e1, e2⟩ := rev_get hi
  obtain ⟨v, ev, rv⟩ := paired_get rp e1
  obtain rfl : x = v := Option.some.inj ((y xs hs).symm.trans ev)
  exact ⟨_, e2, (sb.push rv).st⟩
def revSeqD (s : S) (ω : Sto) (q : List S → (Sto → Prop) → Sto → Prop) : Prop := match s with
  | .d (.tup ds) => q (ds.map .d).reverse (fun _ => True) ω
  | .d (.ktup ds) => q (ds.map .d).reverse (fun _ => True) ω
  | .d (.lst ds) => q (ds.map .d).reverse (fun _ => True) ω
  | .pin j => match ω[j]? with
    | some (.lst ss) => q ss.reverse (fun ω' => ω'[j]? = some (.lst ss)) ω
    | _ => False
  | _ => False
def dRevI (t : TD) : TID := fun ρ ω q x => t ρ ω (fun s ω' => revSeqD s ω' q) x
theorem yi_rev {tg e : Expr} {t : TD} {p pos : Pos} (b : Bu X.mg) (h0 : PD X K E e ht t) (hg : Gl X "reversed" := by rfl) (hs : starEach [e] X.env = (false, eval e X.env) :: starEach [] X.env := by rfl) (hK : X.K = K := by rfl) : PID X K E tg (.Call (.Name "reversed" p) [e] [] pos) (RT.iRevA K ht) (dRevI t) := by
  subst hK
  refine ⟨RT.pi_revA hg b.reversed h0.p hs, fun Φ H σ ρ ω T q Rr x s hx k h => h0.r Φ H σ ρ ω T _ _ x s hx (fun s1 ω1 v H1 h st => ?_) h⟩
  unfold revSeqD at h
  obtain ⟨B, α, sb⟩ := st
  split at h
  · obtain ⟨a, xs, e, ha, ra⟩ := r_tup (sb.tm _ List.mem_cons_self)
    have e : v = .ref a := e
    subst e
    exact ⟨a, xs, rfl, .inr ⟨SqT.of (sb.fr.bh _ _ ha), by rw [ra.len]; exact k _ _ _ _ _ [_] h sb.st it_rtup⟩⟩
  · obtain ⟨a, xs, e, ha, ra⟩ := r_ktup (sb.tm _ List.mem_cons_self)
    have e : v = .ref a := e
    subst e
    exact ⟨a, xs, rfl, .inr ⟨sameT sb.fr.bh ha, by rw [ra.len]; exact k _ _ _ _ _ [_] h sb.st it_rktup⟩⟩
  · obtain ⟨a, xs, e, ha, ra⟩ := r_lst (sb.tm _ List.mem_cons_self)
    have e : v = .ref a := e
    subst e
    exact ⟨a, xs, rfl, .inl ⟨SqL.of (sb.fr.bh _ _ ha), by rw [ra.len]; exact k _ _ _ _ _ [_] h sb.st it_rlst⟩⟩
  · split at h
    · rename_i ec
      obtain ⟨a, e, ha, _, xs, ex, rp⟩ := sb.cell List.mem_cons_self ec
      subst e
      exact ⟨a, xs, rfl, .inl ⟨SqL.of ex, by rw [Paired.length rp]; exact k _ _ _ _ _ [_] h sb.st it_rpin⟩⟩
    · exact h.elim
  · exact h.elim
end
end Y

set_option Elab.async false
set_option linter.all false
set_option maxRecDepth 100000
set_option maxHeartbeats 2000000
namespace Y
open PySem PySem.Spec PyProof.Rows L2 StX
variable {w : World} [Tb w]
/-! ### a def by its address; a local that holds it -/
structure CalF (P : Program) (w : World) (K : PySem.W.Frag) (mg : Str → Option Value) (base : Heap) (CX : CXT) (k : Nat) (f : Addr) (ps : List Str) (sp : Sp) : Prop where
  ex : ∃ fd, FnOk P w K mg base CX k f fd ps sp ∧ PySem.W.keepIn K (.ref f) = true ∧ Binds K fd ps []
section
variable {P : Program} {K : PySem.W.Frag} {mg : Str → Option Value} {base : Heap} {CX : CXT} {j k : Nat} {x : Str} {ps N : List Str} {sp sp' : Sp} {f : Addr}
theorem CalF.mono (c : CalF P w K mg base CX j f ps sp) (h : j ≤ k) : CalF P w K mg base CX k f ps sp := let ⟨fd, F, r⟩ := c.ex; ⟨fd, F.mono h, r⟩
theorem CalF.imp (c : CalF P w K mg base CX k f ps sp) (h : ∀ vs H Q E, sp' vs H Q E → sp vs H Q E) : CalF P w K mg base CX k f ps sp' := let ⟨fd, F, r⟩ := c.ex; ⟨fd, F.imp h, r⟩
theorem Cal.at_ (c : Cal P w K mg base CX k x ps sp) : ∃ f, mg x = some (.ref f) ∧ CalF P w K mg base CX k f ps sp := let ⟨f, fd, F, m, kp, b⟩ := c.ex; ⟨f, m, fd, F, kp, b⟩
end
section
variable {K : PySem.W.Frag} {X : Cx} {E : XK}
variable {Φ : Phi} {B : Hp} {α : List Addr} {H : Hp} {σ : L2.St} {ρ : Env} {ω : Sto} {T : List (V × S)}
def dLoc (i : Nat) (f : Addr) (u : TD) : TD := fun ρ ω q x => ρ[i]? = some (some (.d (.fn f))) ∧ u ρ ω q x
theorem ref_loc {i : Nat} {f : Addr} {sp : Sp} {dvs : List V} {E' : XK} {ta : TA} {u : TD} (h : Ref K E (tCall sp dvs E' ta) u) : Ref K E (tCallL i f sp dvs E' ta) (dLoc i f u) := fun Φ H σ ρ ω T q Q x s hx k hu => by
  refine ⟨?_, h Φ H σ ρ ω T q Q x s hx k hu.2⟩
  obtain ⟨B, α, sb⟩ := s
  obtain ⟨v, e, r⟩ := sb.sl.2 i _ hu.1
  rw [r_fn r] at e
  exact e
section
variable {CX : CXT} {j i : Nat} {ps : List Str} {x : Str} {f : Addr} {e : Expr} {es : List Expr} {p pos : Pos} {u : TAD}
theorem y_loc {C : CP} (i : Nat) (c : CalF X.prog X.w K X.mg X.base CX0 j f ps (spP K C)) (hr : Room j X.A) (ha : PAD X K E (e :: es) ht u) (hN : X.N[i]? = some x := by rfl) (hv : Vis X.env.scope x := by first | exact Or.inl rfl | exact Or.inr (Or.inl rfl) | exact Or.inr (Or.inr rfl)) (hdb : (x == ("__debug__" : Str)) = false := by decide) (hcd : (x == ("__classdict__" : Str)) = false := by decide)
    (he : starEach (e :: es) X.env = (false, eval e X.env) :: starEach es X.env := by rfl) (hpl : (backTo pos (starEach es X.env)).any (·.1) = false := by rfl) (hK : X.K = K := by rfl) : PD X K E (.Call (.Name x p) (e :: es) [] pos) (tCallL i f (spP K C) [] E0 ht) (dLoc i f (dCall C u)) := by
  subst hK
  obtain ⟨fd, F, kp, b⟩ := c.ex
  exact ⟨pe_callL F hr hN hv kp b .nil pass0 ha.p hdb hcd he hpl, ref_loc (ref_call ha.r)⟩
theorem y_locX {C : CPX} (i : Nat) (c : CalF X.prog X.w K X.mg X.base CX j f ps (spPX K C)) (hr : Room j X.A) (hx : Passes CX X E) (ha : PAD X K E (e :: es) ht u) (hN : X.N[i]? = some x := by rfl) (hv : Vis X.env.scope x := by first | exact Or.inl rfl | exact Or.inr (Or.inl rfl) | exact Or.inr (Or.inr rfl)) (hdb : (x == ("__debug__" : Str)) = false := by decide) (hcd : (x == ("__classdict__" : Str)) = false := by decide)
    (he : starEach (e :: es) X.env = (false, eval e X.env) :: starEach es X.env := by rfl) (hpl : (backTo pos (starEach es X.env)).any (·.1) = false := by rfl) (hK : X.K = K := by rfl) : PD X K E (.Call (.Name x p) (e :: es) [] pos) (tCallL i f (spPX K C) [] E ht) (dLoc i f (dCallX C u)) := by
  subst hK
  obtain ⟨fd, F, kp, b⟩ := c.ex
  exact ⟨pe_callL F hr hN hv kp b .nil hx ha.p hdb hcd he hpl, ref_loc (ref_callX ha.r)⟩
theorem y_locG {G : CG} (i : Nat) (c : CalF X.prog X.w K X.mg X.base CX0 j f ps (spG K G)) (hr : Room j X.A) (ha : PAD X K E (e :: es) ht u) (hN : X.N[i]? = some x := by rfl) (hv : Vis X.env.scope x := by first | exact Or.inl rfl | exact Or.inr (Or.inl rfl) | exact Or.inr (Or.inr rfl)) (hdb : (x == ("__debug__" : Str)) = false := by decide) (hcd : (x == ("__classdict__" : Str)) = false := by decide)
    (he : starEach (e :: es) X.env = (false, eval e X.env) :: starEach es X.env := by rfl) (hpl : (backTo pos (starEach es X.env)).any (·.1) = false := by rfl) (hK : X.K = K := by rfl) : PD X K E (.Call (.Name x p) (e :: es) [] pos) (tCallL i f (spG K G) [] E0 ht) (dLoc i f (dCallG G u)) := by
  subst hK
  obtain ⟨fd, F, kp, b⟩ := c.ex
  exact ⟨pe_callL F hr hN hv kp b .nil pass0 ha.p hdb hcd he hpl, ref_loc (ref_callG ha.r)⟩
end
/-! ### dicts of the module -/
structure KTab (K : PySem.W.Frag) (w : World) (mg : Str → Option Value) (x : Str) (a : Addr) (ws : List Str) (tab : Str → Option D) : Prop where
  ma : mg x = some (.ref a)
  ne : ∃ k, k ∈ ws
  ha : ∀ k ∈ ws, ∃ o, KAt K w a k o ∧ match o, tab k with | none, none => True | some v, some d => ∀ B, R K B v d | _, _ => False
def kgetD (ws : List Str) (tab : Str → Option D) : FO := fun s1 s2 ω q => match s1 with
  | .d (.str k) => k ∈ ws ∧ match tab k with
    | some d => q (.d d) ω
    | none => q s2 ω
  | _ => False
section
variable {x : Str} {ws : List Str} {tab : Str → Option D} {a : Addr} {e f : Expr} {t u : TD} {p apos cpos pos : Pos}
theorem y_kget (Tb : KTab X.K X.w X.mg x a ws tab) (h1 : PD X K E e h1t t) (h2 : PD X K E f h2t u) (hg : Gl X x := by rfl) (hd : (x == ("__debug__" : Str)) = false := by decide) (hbase : attributeBase (.Name x p) "get" X.env (eval (.Name x p) X.env) = eval (.Name x p) X.env := by rfl)
    (few : ((backTo cpos (starEach [e, f] X.env)).all (fun x => !x.1) && (backToKw cpos (keywordEach [] X.env)).all (fun x => x.1.isSome) && decide (([e, f] : List Expr).length + ([] : List Keyword).length + (if ([] : List Keyword).isEmpty then 0 else 1) < 30)) = true := by rfl)
    (line : (apos.endLine == cpos.line) = true := by rfl) (trees : backTo cpos (starEach [e, f] X.env) = [(false, eval e X.env), (false, eval f X.env)] := by rfl) (hK : X.K = K := by rfl) :
    PD X K E (.Call (.Attribute (.Name x p) "get" apos) [e, f] [] cpos) (tKGet2 K X.w (tC (.ref a)) h1t h2t) (dOp (kgetD ws tab) t u) := by
  subst hK
  obtain ⟨ma, ⟨kk, hkk⟩, ha⟩ := Tb
  refine ⟨pe_kget2 (pe_glob (v := .ref a) (pos := p) hg ma rfl hd) h1.p h2.p ⟨hbase, few, line, trees⟩, fun Φ H σ ρ ω T q Q y s hx k h => ?_⟩
  refine ⟨a, rfl, ?_, ?_⟩
  · obtain ⟨o, ho, _⟩ := ha kk hkk
    exact ⟨_, o, ho⟩
  refine h1.r Φ H σ ρ ω T _ _ y s hx (fun s1 ω1 v1 H1 h st1 => h2.r Φ H1 σ ρ ω1 _ _ _ y st1 hx (fun s2 ω2 v2 H2 g st2 => ?_) h) h
  unfold kgetD at g
  obtain ⟨B, α, sb⟩ := st2
  split at g
  · rename_i _ z
    obtain ⟨hz, g⟩ := g
    obtain ⟨o, ho, hm⟩ := ha z hz
    refine ⟨z, o, r_str (sb.tm (v1, .d (.str z)) (by simp)), ho, ?_⟩
    cases e2 : tab z with
    | none =>
      rw [e2] at hm
      simp only [e2] at g
      cases o with
      | some v => exact hm.elim
      | none => exact k _ _ _ _ g (sb.st.sub fun p hp => by rcases List.mem_cons.mp hp with rfl | hp <;> simp [*])
    | some d =>
      rw [e2] at hm
      simp only [e2] at g
      cases o with
      | none => exact hm.elim
      | some v => exact k _ _ _ _ g ((sb.st.sub fun p hp => by simp [hp]).push hm)
  · exact g.elim
def kixD (ws : List Str) (tab : Str → Option D) : S → Sto → (S → Sto → Prop) → Prop := fun s1 ω q => match s1 with
  | .d (.str k) => k ∈ ws ∧ match tab k with
    | some d => q (.d d) ω
    | none => False
  | _ => False
theorem y_kix (Tb : KTab X.K X.w X.mg x a ws tab) (h1 : PD X K E e h1t t) (hs : PlainIx e) (hg : Gl X x := by rfl) (hd : (x == ("__debug__" : Str)) = false := by decide) (hK : X.K = K := by rfl) : PD X K E (.Subscript (.Name x p) e pos) (tOp (rIxD K X.w) (tC (.ref a)) h1t) (dUn (kixD ws tab) t) := by
  subst hK
  obtain ⟨ma, _, ha⟩ := Tb
  refine ⟨pe_ix ix_kdict (pe_glob (v := .ref a) (pos := p) hg ma rfl hd) h1.p hs, fun Φ H σ ρ ω T q Q y s hx k h => h1.r Φ H σ ρ ω T _ _ y s hx (fun s1 ω1 v1 H1 h st1 => ?_) h⟩
  unfold kixD at h
  obtain ⟨B, α, sb⟩ := st1
  split at h
  · rename_i z
    obtain ⟨hz, h⟩ := h
    obtain ⟨o, ⟨es, n, r, hl, hk, low, hn, ro⟩, hm⟩ := ha z hz
    cases e2 : tab z with
    | none => simp only [e2] at h
    | some d =>
      rw [e2] at hm
      simp only [e2] at h
      cases o with
      | none => exact hm.elim
      | some v =>
        cases r with
        | none => cases ro
        | some u =>
          refine ⟨a, z, v, rfl, r_str (sb.tm (v1, .d (.str z)) (by simp)), ⟨es, n, u, hl, hk, hn, ro⟩, k _ _ _ _ h ((sb.st.sub fun p hp => List.mem_cons_of_mem _ hp).push hm)⟩
  · exact h.elim
end
/-! ### {k: v, ..} -/
def dPairs : List (TD × TD) → Env → Sto → (List (Key × S) → Sto → Prop) → XD → Prop
  | [], _, ω, q, _ => q [] ω
  | (tk, tv) :: r, ρ, ω, q, x => tk ρ ω (fun s ω1 => match s with
    | .d d => match keyOf d with
      | some k => tv ρ ω1 (fun y ω2 => dPairs r ρ ω2 (fun kvs ω3 => q ((k, y) :: kvs) ω3) x) x
      | none => False
    | _ => False) x
def RefPs (K : PySem.W.Frag) (E : XK) (trs : List (TE × TE)) (tds : List (TD × TD)) : Prop := ∀ (Φ : Phi) (H : Hp) (σ : L2.St) (ρ : Env) (ω : Sto) (T : List (V × S)) (q : List (Key × S) → Sto → Prop) (Q : List (V × V) → Hp → Prop) (x : XD), St Φ K H σ ρ ω T → XOk Φ K x E →
  (∀ (kvs : List (Key × V)) (kss : List (Key × S)) ω' H', q kss ω' → kvs.map Prod.fst = kss.map Prod.fst → St Φ K H' σ ρ ω' ((kvs.map Prod.snd).zip (kss.map Prod.snd) ++ T) → Q (kvs.map fun kv => (kV kv.1, kv.2)) H') → dPairs tds ρ ω q x → tPairs trs σ H Q
structure PPsD (X : Cx) (K : PySem.W.Frag) (E : XK) (pos : Pos) (keys : List (Option Expr)) (values : List Expr) (trs : List (TE × TE)) (tds : List (TD × TD)) : Prop where
  p : PPs X pos keys values trs
  r : RefPs K E trs tds
theorem ypps_nil {pos : Pos} : PPsD X K E pos [] [] [] [] := ⟨pps_nil, fun Φ H σ ρ ω T q Q x s hx k h => k [] [] ω H h rfl s⟩
theorem ypps_cons {pos : Pos} {k v : Expr} {ks : List (Option Expr)} {vs : List Expr} {tk tv : TD} {tds : List (TD × TD)} (hk : PD X K E k hkt tk) (hv : PD X K E v hvt tv) (hr : PPsD X K E pos ks vs trs tds) : PPsD X K E pos (some k :: ks) (v :: vs) ((hkt, hvt) :: trs) ((tk, tv) :: tds) :=
  ⟨pps_cons hk.p hv.p hr.p, fun Φ H σ ρ ω T q Q x s hx k h => hk.r Φ H σ ρ ω T _ _ x s hx (fun s1 ω1 v1 H1 h st1 => by
    split at h
    · rename_i d
      split at h
      · rename_i key ek
        refine hv.r Φ H1 σ ρ ω1 _ _ _ x st1 hx (fun s2 ω2 v2 H2 h st2 => hr.r Φ H2 σ ρ ω2 _ _ _ x st2 hx (fun kvs kss ω3 H3 h hl st3 => ?_) h) h
        have e1 : v1 = kV key := by
          obtain ⟨B, α, sb⟩ := st1
          exact r_key ek (sb.tm (v1, .d d) List.mem_cons_self)
        subst e1
        refine k ((key, v2) :: kvs) ((key, s2) :: kss) ω3 H3 h (by simp [hl]) (st3.sub fun p hp => ?_)
        simp only [List.map_cons, List.zip_cons_cons, List.cons_append, List.mem_cons, List.mem_append] at hp ⊢
        rcases hp with hp | hp | hp
        · exact .inr (.inl hp)
        · exact .inl hp
        · exact .inr (.inr (.inr hp))
      · exact h.elim
    · exact h.elim) h⟩
def mergeS (kvs more : List (Key × S)) : List (Key × S) := more.foldl (fun acc kv => putS acc kv.1 kv.2) kvs
theorem RK.merge {α : List Addr} {B : Hp} : ∀ {more : List (Key × V)} {ms : List (Key × S)} {kvs : List (Key × V)} {kss : List (Key × S)}, RK K α B more ms → RK K α B kvs kss → RK K α B (mergeK kvs more) (mergeS kss ms)
  | _, _, _, _, .nil, h => h
  | _, _, _, _, .cons (b := b) p t, h => by
    unfold mergeK mergeS
    rw [List.foldl_cons, List.foldl_cons]
    refine RK.merge t ?_
    rw [p.1]
    exact h.put p.2
def dDisp (tds : List (TD × TD)) : TD := fun ρ ω q x => dPairs tds ρ ω (fun kvs ω' => kvs.length ≤ 15 ∧ q (.pin ω'.length) (ω' ++ [.dK (mergeS [] kvs)])) x
/-- an object that is not known yet becomes one that changes -/
theorem StB.adoptC (s : StB Φ K B α H σ ρ ω T) {p : Addr} (na : p ∉ α) (nb : B p = none) (nf : Φ.H p = none) (ne : ∀ q ∈ Tb.T (w := w), q.1 ≠ p) (o : HO) {c : Cell} (hc : CellOk K (α ++ [p]) B (upd H p o) p c) : St Φ K (upd H p o) σ ρ (ω ++ [c]) ((.ref p, .pin ω.length) :: T) := by
  obtain ⟨β, eβ, nβ⟩ := s.fr.pre
  have st : StB Φ K B (α ++ [p]) (upd H p o) σ ρ (ω ++ [c]) T := by
    refine ⟨⟨s.fr.bb, fun b u q => ?_, fun b u m q => ?_, s.fr.fr, β ++ [p], by rw [eβ, List.append_assoc], fun a m => ?_⟩, ⟨(s.wd.tb.snocN ne).upN ne o, ?_, by simp [s.wd.len], fun a m => ?_, fun j a c' e1 e2 => ?_⟩, s.sl.mono (Same.refl B) ⟨[p], rfl⟩, fun q hq => (s.tm q hq).mono (Same.refl B)⟩
    · rw [upd_ne (ne_of_none q nb)]; exact s.fr.bh b u q
    · rw [upd_ne (ne_of_none q nf)]; exact s.fr.hh b u m q
    · rcases List.mem_append.mp m with m | m
      · exact nβ a m
      · rw [List.mem_singleton.mp m]; exact .inl nf
    · rw [List.nodup_append]
      exact ⟨s.wd.nd, by simp, fun a ha b hb => by rw [List.mem_singleton.mp hb]; exact fun z => na (z ▸ ha)⟩
    · rcases List.mem_append.mp m with m | m
      · obtain ⟨u, q⟩ := s.wd.tr a m
        exact ⟨u, by rw [upd_ne (show a ≠ p from fun z => na (z ▸ m))]; exact q⟩
      · rw [List.mem_singleton.mp m]; exact ⟨_, upd_same⟩
    · by_cases hj : j < α.length
      · rw [List.getElem?_append_left hj] at e1
        rw [List.getElem?_append_left (by rw [← s.wd.len]; exact hj)] at e2
        have ne : a ≠ p := fun z => na (z ▸ List.mem_of_getElem? e1)
        exact (s.wd.cell j a c' e1 e2).mono (Same.refl B) id (by rw [upd_ne ne])
      · have hl : j < (α ++ [p]).length := (List.getElem?_eq_some_iff.mp e1).1
        have : j = α.length := by simp at hl; omega
        subst this
        rw [List.getElem?_append_right (Nat.le_refl _)] at e1
        rw [s.wd.len, List.getElem?_append_right (Nat.le_refl _)] at e2
        simp at e1 e2
        subst e1 e2
        exact hc
  exact (st.push (x := .pin ω.length) ⟨p, by rw [← s.wd.len]; simp, rfl⟩).st
theorem rk_zip {α : List Addr} {B : Hp} : ∀ {kvs : List (Key × V)} {kss : List (Key × S)}, kvs.map Prod.fst = kss.map Prod.fst → (∀ p ∈ (kvs.map Prod.snd).zip (kss.map Prod.snd), RS K α B p.1 p.2) → RK K α B kvs kss
  | [], [], _, _ => .nil
  | a :: kvs, b :: kss, h, g => by
    rw [List.map_cons, List.map_cons] at h
    exact .cons ⟨(List.cons.inj h).1, g (a.2, b.2) (by simp)⟩ (rk_zip (List.cons.inj h).2 fun p hp => g p (by simp [hp]))
  | [], _ :: _, h, _ => by simp at h
  | _ :: _, [], h, _ => by simp at h
/-- nothing stood where it is free -/
theorem StB.nfree (sb : StB Φ K B α H σ ρ ω T) {p : Addr} (hp : H p = none) : Φ.H p = none := by
  have nf : Φ.H p = none ∨ p ∈ Φ.α := by
    by_cases m : p ∈ Φ.α
    · exact .inr m
    · cases z : Φ.H p with
      | none => exact .inl rfl
      | some o => obtain ⟨o', z'⟩ := sb.fr.live m z; rw [z'] at hp; cases hp
  rcases nf with z | z
  · exact z
  · obtain ⟨β, eβ, _⟩ := sb.fr.pre
    obtain ⟨o, e⟩ := sb.wd.tr p (by rw [eβ]; simp [z])
    rw [hp] at e; cases e
theorem StB.beside (sb : StB Φ K B α H σ ρ ω T) {p : Addr} (hp : H p = none) (o : HO) : StB Φ K B α (upd H p o) σ ρ ω T := by
  have gH : Same H (upd H p o) := fun b u q => by rw [upd_ne (ne_of_none q hp)]; exact q
  have nm := sb.wd.fresh hp
  refine ⟨⟨sb.fr.bb, sb.fr.bh.trans gH, fun b o m z => (sb.fr.hh b o m z).imp (gH _ _) (fun y => ⟨y.1, y.2.imp fun ps => gH _ _⟩), sb.fr.fr, sb.fr.pre⟩, ⟨sb.wd.tb.up (.inl hp) _, sb.wd.nd, sb.wd.len, fun a m => let ⟨o, e⟩ := sb.wd.tr a m; ⟨o, gH _ _ e⟩, fun j a c e1 e2 => ?_⟩, sb.sl, sb.tm⟩
  have ne : a ≠ p := fun z => nm (z ▸ List.mem_of_getElem? e1)
  have := (sb.wd.cell j a c e1 e2).mono (β := []) (Same.refl B) id (H' := upd H p o) (by rw [upd_ne ne])
  simpa using this
theorem y_disp {pos : Pos} {keys : List (Option Expr)} {values : List Expr} {trs : List (TE × TE)} {tds : List (TD × TD)} (h : PPsD X K E pos keys values trs tds) (hall : keys.all (·.isSome) = true) (hl : keys.length = values.length) (h0 : keys ≠ []) (h15 : keys.length ≤ 15) : PD X K E (.Dict keys values pos) (tDisp trs) (dDisp tds) := by
  refine ⟨pe_disp h.p hall hl h0 h15, fun Φ H σ ρ ω T q Q x ⟨B, α, sb⟩ hx k hh p hp => ?_⟩
  have nm := sb.wd.fresh hp
  have nb := sb.fr.bh.free hp
  have nf := sb.nfree hp
  have sb1 := sb.beside hp (.dK [])
  have sb0 : StB ⟨B, upd H p (.dK []), α⟩ K B α (upd H p (.dK [])) σ ρ ω T := ⟨Frame.refl sb1.fr.bh, sb1.wd, sb1.sl, sb1.tm⟩
  refine h.r _ _ σ ρ ω T _ _ x sb0.st (hx.step sb1.fr) (fun kvs kss ω' H' hq hk ⟨B', α', st⟩ => ?_) hh
  obtain ⟨hn, hq⟩ := hq
  obtain ⟨x1, x2, x3⟩ := st.fr.out upd_same nm nb
  have len : kvs.length = kss.length := by
    have := congrArg List.length hk
    simpa using this
  refine ⟨x1, kvs, rfl, by omega, k _ _ _ _ hq ?_⟩
  have sb2 : StB Φ K B' α' H' σ ρ ω' T := ⟨sb1.fr.trans st.fr, st.wd, st.sl, fun p hp => st.tm p (List.mem_append_right _ hp)⟩
  have rk : RK K α' B' kvs kss := rk_zip hk fun p hp => st.tm p (List.mem_append_left _ hp)
  exact sb2.adoptC x2 x3 nf (sb2.wd.tb.neO x1 (fun _ z => nomatch z)) (.dK _) (c := .dK _) ⟨x3, _, upd_same, (RK.merge rk .nil).mono (Same.refl _)⟩
end
end Y

set_option Elab.async false
set_option linter.all false
set_option maxRecDepth 100000
set_option maxHeartbeats 2000000
namespace Y
open PySem PySem.Spec PyProof.Rows L2 StX
variable {w : World} [Tb w]
/-! ### room -/
theorem hu_of {k : Nat} {A : Around} (r : Room k A) : A.units + 2 < cLine := by have := r.un; omega
/-! ### not e, by its truth -/
def dNotTv (t : TD) : TD := fun ρ ω q x => t ρ ω (fun s ω' => truD s ω' fun b ω2 => q (.d (.bl (!b))) ω2) x
theorem y_notT {K : PySem.W.Frag} {X : Cx} {E : XK} {a : Expr} {t : TD} {pos : Pos} (h0 : PD X K E a ht t) (hK : X.K = K := by rfl) : PD X K E (.UnaryOp .Not a pos) (tNotT K ht) (dNotTv t) := by
  subst hK
  refine ⟨pe_notT h0.p, fun Φ H σ ρ ω T q Q x s hx k h => h0.r Φ H σ ρ ω T _ _ x s hx (fun s1 ω1 v H1 h st => ?_) h⟩
  obtain ⟨B, α, sb⟩ := st
  exact tru_ok2 (Q := fun b H => Q (.bl (!b)) H) sb List.mem_cons_self (fun b hb => k _ _ _ _ hb ((sb.st.sub fun p hp => List.mem_cons_of_mem _ hp).push fun _ => .bl _)) h
/-! ### what isinstance tells -/
def isiD (T : String) (s : S) (ω : Sto) (q : S → Sto → Prop) : Prop := match tyS s ω with | some a => q (.d (.bl (kitS a T))) ω | none => False
section
variable {T : String} {b : Bool} {i j : Int} {x y : Str} {a : Addr} {ds es : List D} {n : Nat} {ω : Sto} {q : S → Sto → Prop} {neg : Bool}
theorem ty_non : isiD T (.d .non) ω q = q (.d (.bl (kitS "NoneType" T))) ω := rfl
theorem ty_bl : isiD T (.d (.bl b)) ω q = q (.d (.bl (kitS "bool" T))) ω := rfl
theorem ty_int : isiD T (.d (.int i)) ω q = q (.d (.bl (kitS "int" T))) ω := rfl
theorem ty_str : isiD T (.d (.str x)) ω q = q (.d (.bl (kitS "str" T))) ω := rfl
theorem ty_tup : isiD T (.d (.tup ds)) ω q = q (.d (.bl (kitS "tuple" T))) ω := rfl
theorem ty_ktup : isiD T (.d (.ktup ds)) ω q = q (.d (.bl (kitS "tuple" T))) ω := rfl
theorem ty_lst : isiD T (.d (.lst ds)) ω q = q (.d (.bl (kitS "list" T))) ω := rfl
theorem ty_pin : isiD T (.pin n) ω q = match ω[n]? with
    | some (.lst _) => q (.d (.bl (kitS "list" T))) ω
    | some (.dK _) => q (.d (.bl (kitS "dict" T))) ω
    | some (.dT _) => q (.d (.bl (kitS "dict" T))) ω
    | _ => False := by
  cases h : ω[n]? with
  | none => simp only [isiD, tyS, h]
  | some c => cases c <;> simp only [isiD, tyS, h]
/-! ### equal -/
theorem eq_ii : eqD neg (.d (.int i)) (.d (.int j)) ω q = q (.d (.bl (neg ^^ decide (i = j)))) ω := rfl
theorem eq_ss : eqD neg (.d (.str x)) (.d (.str y)) ω q = q (.d (.bl (neg ^^ decide (x = y)))) ω := rfl
theorem eq_bb {c : Bool} : eqD neg (.d (.bl b)) (.d (.bl c)) ω q = q (.d (.bl (neg ^^ decide (b = c)))) ω := rfl
theorem eq_tt : eqD neg (.d (.tup ds)) (.d (.tup es)) ω q = ((okD (.tup ds) ∧ okD (.tup es)) ∧ q (.d (.bl (neg ^^ PyData.eqv (toP (.tup ds)) (toP (.tup es))))) ω) := rfl
theorem eq_ll : eqD neg (.d (.lst ds)) (.d (.lst es)) ω q = ((okD (.lst ds) ∧ okD (.lst es)) ∧ q (.d (.bl (neg ^^ PyData.eqv (toP (.lst ds)) (toP (.lst es))))) ω) := rfl
theorem eq_tk : eqD neg (.d (.tup ds)) (.d (.ktup es)) ω q = ((okD (.tup ds) ∧ okD (.ktup es)) ∧ q (.d (.bl (neg ^^ PyData.eqv (toP (.tup ds)) (toP (.ktup es))))) ω) := rfl
/-! ### in -/
theorem in_tup {d : D} : inD neg (.d d) (.d (.tup ds)) ω q = inSq neg d ds ω q := by cases d <;> rfl
theorem in_ktup {d : D} : inD neg (.d d) (.d (.ktup ds)) ω q = inSq neg d ds ω q := by cases d <;> rfl
theorem in_lst {d : D} : inD neg (.d d) (.d (.lst ds)) ω q = inSq neg d ds ω q := by cases d <;> rfl
theorem in_str : inD neg (.d (.str x)) (.d (.str y)) ω q = q (.d (.bl (neg ^^ inStr x y))) ω := rfl
theorem in_pin {d : D} : inD neg (.d d) (.pin n) ω q = match ω[n]? with
    | some (.lst ss) => match allD ss with
      | some ds => inSq neg d ds ω q
      | none => False
    | some c => match lookC c d with
      | some o => q (.d (.bl (neg ^^ o.isSome))) ω
      | none => False
    | none => False := by cases d <;> rfl
def strsOf : List D → Option (List Str)
  | [] => some []
  | .str x :: ds => (strsOf ds).map (x :: ·)
  | _ :: _ => none
def intsOf : List D → Option (List Int)
  | [] => some []
  | .int x :: ds => (intsOf ds).map (x :: ·)
  | _ :: _ => none
theorem strsOf_nil : strsOf [] = some [] := rfl
theorem strsOf_cons : strsOf (.str x :: ds) = (strsOf ds).map (x :: ·) := rfl
theorem strsOf_map : ∀ {xs : List Str}, strsOf (xs.map .str) = some xs
  | [] => rfl
  | x :: xs => by rw [List.map_cons, strsOf_cons, strsOf_map]; rfl
theorem intsOf_nil : intsOf [] = some [] := rfl
theorem intsOf_cons : intsOf (.int i :: ds) = (intsOf ds).map (i :: ·) := rfl
theorem intsOf_map : ∀ {xs : List Int}, intsOf (xs.map .int) = some xs
  | [] => rfl
  | x :: xs => by rw [List.map_cons, intsOf_cons, intsOf_map]; rfl
theorem strsOf_eq : ∀ {ds : List D} {xs : List Str}, strsOf ds = some xs → ds = xs.map .str
  | [], xs, h => by cases h; rfl
  | .str x :: ds, xs, h => by
    simp only [strsOf, Option.map_eq_some_iff] at h
    obtain ⟨r, h1, rfl⟩ := h
    rw [strsOf_eq h1]
    rfl
  | .non :: _, _, h => by cases h
  | .bl _ :: _, _, h => by cases h
  | .int _ :: _, _, h => by cases h
  | .fn _ :: _, _, h => by cases h
  | .tup _ :: _, _, h => by cases h
  | .ktup _ :: _, _, h => by cases h
  | .lst _ :: _, _, h => by cases h
  | .klst _ :: _, _, h => by cases h
theorem intsOf_eq : ∀ {ds : List D} {xs : List Int}, intsOf ds = some xs → ds = xs.map .int
  | [], xs, h => by cases h; rfl
  | .int x :: ds, xs, h => by
    simp only [intsOf, Option.map_eq_some_iff] at h
    obtain ⟨r, h1, rfl⟩ := h
    rw [intsOf_eq h1]
    rfl
  | .non :: _, _, h => by cases h
  | .bl _ :: _, _, h => by cases h
  | .str _ :: _, _, h => by cases h
  | .fn _ :: _, _, h => by cases h
  | .tup _ :: _, _, h => by cases h
  | .ktup _ :: _, _, h => by cases h
  | .lst _ :: _, _, h => by cases h
  | .klst _ :: _, _, h => by cases h
theorem memF_str : ∀ {xs : List Str}, memF (.str x) (xs.map .str) = decide (x ∈ xs)
  | [] => rfl
  | y :: xs => by
    have ih := @memF_str xs
    unfold memF at ih ⊢
    rw [List.map_cons, List.any_cons, ih, eqF]
    by_cases h1 : y = x
    · subst h1; simp
    · have h2 : ¬ x = y := fun z => h1 z.symm
      by_cases h3 : x ∈ xs <;> simp [h1, h2, h3]
theorem memP_str : ∀ {xs : List Str}, memP (.str x) (xs.map .str) = decide (x ∈ xs)
  | [] => rfl
  | y :: xs => by
    have ih := @memP_str xs
    unfold memP at ih ⊢
    rw [List.map_cons, toPs, List.any_cons, ih, toP, toP, PyData.eqv]
    by_cases h1 : y = x
    · subst h1; simp
    · have h2 : ¬ x = y := fun z => h1 z.symm
      by_cases h3 : x ∈ xs <;> simp [h1, h2, h3]
theorem memF_int : ∀ {xs : List Int}, memF (.int i) (xs.map .int) = decide (i ∈ xs)
  | [] => rfl
  | y :: xs => by
    have ih := @memF_int xs
    unfold memF at ih ⊢
    rw [List.map_cons, List.any_cons, ih, eqF]
    by_cases h1 : y = i
    · subst h1; simp
    · have h2 : ¬ i = y := fun z => h1 z.symm
      by_cases h3 : i ∈ xs <;> simp [h1, h2, h3]
theorem memP_int : ∀ {xs : List Int}, memP (.int i) (xs.map .int) = decide (i ∈ xs)
  | [] => rfl
  | y :: xs => by
    have ih := @memP_int xs
    unfold memP at ih ⊢
    rw [List.map_cons, toPs, List.any_cons, ih, toP, toP, PyData.eqv]
    by_cases h1 : y = i
    · subst h1; simp
    · have h2 : ¬ i = y := fun z => h1 z.symm
      by_cases h3 : i ∈ xs <;> simp [h1, h2, h3]
def inSqO (neg : Bool) (x : D) (ds : List D) (ω : Sto) (q : S → Sto → Prop) : Prop := inSq neg x ds ω q
theorem flat_str : ∀ {xs : List Str}, (xs.map D.str).all flatD = true
  | [] => rfl
  | _ :: xs => by rw [List.map_cons, List.all_cons, flat_str]; rfl
theorem flat_int : ∀ {xs : List Int}, (xs.map D.int).all flatD = true
  | [] => rfl
  | _ :: xs => by rw [List.map_cons, List.all_cons, flat_int]; rfl
theorem inSq_str : inSq neg (.str x) ds ω q = match strsOf ds with | some xs => q (.d (.bl (neg ^^ decide (x ∈ xs)))) ω | none => inSqO neg (.str x) ds ω q := by
  cases h : strsOf ds with
  | none => rfl
  | some xs =>
    rw [strsOf_eq h]
    show inSq _ _ _ _ _ = q _ ω
    unfold inSq
    rw [memF_str, memP_str]
    refine propext ⟨fun h => ?_, fun h => .inl ⟨⟨rfl, flat_str⟩, h⟩⟩
    rcases h with h | h <;> exact h.2
theorem inSq_int : inSq neg (.int i) ds ω q = match intsOf ds with | some xs => q (.d (.bl (neg ^^ decide (i ∈ xs)))) ω | none => inSqO neg (.int i) ds ω q := by
  cases h : intsOf ds with
  | none => rfl
  | some xs =>
    rw [intsOf_eq h]
    show inSq _ _ _ _ _ = q _ ω
    unfold inSq
    rw [memF_int, memP_int]
    refine propext ⟨fun h => ?_, fun h => .inl ⟨⟨rfl, flat_int⟩, h⟩⟩
    rcases h with h | h <;> exact h.2
theorem inSq_deep {d : D} (h0 : flatD d = false) (h1 : okD d) (h2 : okD (.tup ds)) : inSq neg d ds ω q = q (.d (.bl (neg ^^ memP d ds))) ω := by
  unfold inSq
  rw [h0]
  simp [h1, h2]
/-! ### an index, a length -/
theorem ix_tup : ixD (.d (.tup ds)) (.d (.int i)) ω q = match atI ds i with | some d => q (.d d) ω | none => False := rfl
theorem ix_ktup : ixD (.d (.ktup ds)) (.d (.int i)) ω q = match atI ds i with | some d => q (.d d) ω | none => False := rfl
theorem ix_lst : ixD (.d (.lst ds)) (.d (.int i)) ω q = match atI ds i with | some d => q (.d d) ω | none => False := rfl
theorem ix_str : ixD (.d (.str x)) (.d (.int i)) ω q = match atI x.cps.toList i with | some c => x.length ≤ 1000000 ∧ q (.d (.str ⟨#[c]⟩)) ω | none => False := rfl
theorem ix_pin {d : D} : ixD (.pin n) (.d d) ω q = match ω[n]? with
    | some (.lst ss) => match d with
      | .int i => match atI ss i with
        | some s => q s ω
        | none => False
      | _ => False
    | some c => match lookC c d with
      | some (some s) => q s ω
      | _ => False
    | none => False := rfl
theorem len_tup : lenD [.d (.tup ds)] ω q = q (.d (.int ds.length)) ω := rfl
theorem len_ktup : lenD [.d (.ktup ds)] ω q = q (.d (.int ds.length)) ω := rfl
theorem len_lst : lenD [.d (.lst ds)] ω q = q (.d (.int ds.length)) ω := rfl
theorem len_str : lenD [.d (.str x)] ω q = (x.length ≤ 1000000 ∧ q (.d (.int x.length)) ω) := rfl
theorem len_pin : lenD [.pin n] ω q = match ω[n]? with
    | some (.lst ss) => q (.d (.int ss.length)) ω
    | some (.dK kvs) => q (.d (.int kvs.length)) ω
    | _ => False := by
  cases h : ω[n]? with
  | none => simp only [lenD, h]
  | some c => cases c <;> simp only [lenD, h]
end
/-! ### dicts, step by step -/
section
variable {κ : Type} [DecidableEq κ] {a k : κ} {s v : S} {r : List (κ × S)}
theorem valS_nil : valS ([] : List (κ × S)) k = none := rfl
theorem valS_cons : valS ((a, s) :: r) k = if a = k then some s else valS r k := by
  unfold valS
  rw [List.find?_cons]
  by_cases h : a = k <;> simp [h]
theorem putS_nil : putS ([] : List (κ × S)) k s = [(k, s)] := rfl
theorem putS_cons : putS ((a, s) :: r) k v = if a = k then (a, v) :: r.map (fun kv => if kv.1 = k then (kv.1, v) else kv) else (a, s) :: putS r k v := by
  unfold putS
  rw [List.any_cons]
  by_cases h : a = k
  · simp [h]
  · simp only [h, decide_false, Bool.false_or, if_false]
    by_cases h2 : (r.any fun kv => decide (kv.1 = k)) = true
    · rw [if_pos h2, if_pos h2, List.map_cons, if_neg h]
    · rw [if_neg h2, if_neg h2]
      rfl
end
/-! ### lists -/
section
variable {α β : Type} {l m : List α} {a b c d e : α} {n : Nat}
theorem atI_nat : atI l ((n : Nat) : Int) = l[n]? := by
  unfold atI ixN
  rw [if_pos (by omega)]
  by_cases h : n < l.length
  · rw [if_pos (by omega)]
    simp
  · rw [if_neg (by omega)]
    simp; omega
theorem atI_0 : atI (a :: l) 0 = some a := (atI_nat (n := 0)).trans rfl
theorem atI_1 : atI (a :: b :: l) 1 = some b := (atI_nat (n := 1)).trans rfl
theorem atI_2 : atI (a :: b :: c :: l) 2 = some c := (atI_nat (n := 2)).trans rfl
theorem atI_3 : atI (a :: b :: c :: d :: l) 3 = some d := (atI_nat (n := 3)).trans rfl
theorem atI_1m1 : atI [a] (-1) = some a := rfl
theorem atI_2m1 : atI [a, b] (-1) = some b := rfl
theorem atI_2m2 : atI [a, b] (-2) = some a := rfl
theorem atI_3m1 : atI [a, b, c] (-1) = some c := rfl
theorem atI_3m2 : atI [a, b, c] (-2) = some b := rfl
theorem atI_4m1 : atI [a, b, c, d] (-1) = some d := rfl
theorem atI_4m2 : atI [a, b, c, d] (-2) = some c := rfl
theorem cut_from : cutL l (some (n : Int)) none = l.drop n := by
  unfold cutL
  rw [HT.sIx_nat, HT.sIx_none]
  by_cases h : n ≤ l.length
  · rw [Nat.min_eq_left h, List.take_of_length_le (by rw [List.length_drop]; omega)]
  · rw [Nat.min_eq_right (by omega), List.drop_length, List.drop_of_length_le (by omega)]
    simp
theorem cut_to : cutL l none (some (n : Int)) = l.take n := by
  unfold cutL
  rw [HT.sIx_nat, HT.sIx_none, List.drop_zero, Nat.sub_zero]
  by_cases h : n ≤ l.length
  · rw [Nat.min_eq_left h]
  · rw [Nat.min_eq_right (by omega), List.take_length, List.take_of_length_le (by omega)]
theorem cut_1 : cutL (a :: l) (some 1) none = l := (cut_from (n := 1)).trans rfl
theorem cut_2 : cutL (a :: b :: l) (some 2) none = l := (cut_from (n := 2)).trans rfl
theorem cut_to1 : cutL (a :: l) none (some 1) = [a] := (cut_to (n := 1)).trans rfl
theorem cut_to2 : cutL (a :: b :: l) none (some 2) = [a, b] := (cut_to (n := 2)).trans rfl
theorem cut_none : cutL l none none = l := by
  unfold cutL
  rw [HT.sIx_none, HT.sIx_none, List.drop_zero, Nat.sub_zero, List.take_length]
theorem get_app {i : Nat} (h : l[i]? = some a) : (l ++ m)[i]? = some a := by
  rw [List.getElem?_append_left (List.getElem?_eq_some_iff.mp h).1]
  exact h
theorem get_new : (l ++ a :: m)[l.length]? = some a := by simp
theorem get_new1 : (l ++ a :: b :: m)[l.length + 1]? = some b := by simp
theorem get_new2 : (l ++ a :: b :: c :: m)[l.length + 2]? = some c := by simp
theorem get_new3 : (l ++ a :: b :: c :: d :: m)[l.length + 3]? = some d := by simp
theorem get_newm {f : β → α} {z : List β} : (z.map f ++ a :: m)[z.length]? = some a := by simp
theorem set_new : (l ++ a :: m).set l.length e = l ++ e :: m := by simp
theorem set_new1 : (l ++ a :: b :: m).set (l.length + 1) e = l ++ a :: e :: m := by
  rw [List.set_append_right _ _ (by omega)]
  simp
theorem set_new2 : (l ++ a :: b :: c :: m).set (l.length + 2) e = l ++ a :: b :: e :: m := by
  rw [List.set_append_right _ _ (by omega)]
  simp
theorem set_new3 : (l ++ a :: b :: c :: d :: m).set (l.length + 3) e = l ++ a :: b :: c :: e :: m := by
  rw [List.set_append_right _ _ (by omega)]
  simp
theorem set_same {i : Nat} (h : l[i]? = some a) : l = l.set i a := by
  obtain ⟨h1, h2⟩ := List.getElem?_eq_some_iff.mp h
  rw [← h2]
  exact (List.set_getElem_self h1).symm
theorem isEmpty_snoc : (l ++ [a]).isEmpty = false := by cases l <;> rfl
end
theorem ofString_inj {a b : String} : (Str.ofString a = Str.ofString b) = (a = b) := by
  refine propext ⟨fun h => ?_, fun h => by rw [h]⟩
  rw [Str.ofString_eq_toList, Str.ofString_eq_toList] at h
  have h2 : a.toList.map Char.toNat = b.toList.map Char.toNat := by simpa using h
  have inj : ∀ {l m : List Char}, l.map Char.toNat = m.map Char.toNat → l = m := by
    intro l
    induction l with
    | nil => intro m h; cases m with | nil => rfl | cons => simp at h
    | cons x l ih =>
      intro m h
      cases m with
      | nil => simp at h
      | cons y m =>
        rw [List.map_cons, List.map_cons] at h
        rw [ih (List.cons.inj h).2]
        congr 1
        exact Char.ext (UInt32.toNat_inj.mp (List.cons.inj h).1)
  exact String.toList_inj.mp (inj h2)
/-! ### data of lists -/
theorem allD_mapf {β : Type} {f : β → D} {l : List β} : allD (l.map fun s => S.d (f s)) = some (l.map f) := by
  rw [← allD_map, List.map_map]
  rfl
theorem allD_app : ∀ {a b : List S}, allD (a ++ b) = match allD a with | some x => (allD b).map fun y => x ++ y | none => none
  | [], b => by
    show allD b = (allD b).map fun y => y
    simp
  | .d x :: a, b => by
    rw [List.cons_append, allD, allD_app, allD]
    cases allD a with
    | none => rfl
    | some y => cases allD b <;> rfl
  | .pin _ :: a, b => rfl
theorem allB_map {bs : List Bool} : allB (bs.map .bl) = some bs := by
  induction bs with
  | nil => rfl
  | cons d ds ih => rw [List.map_cons, allB, ih]; rfl
theorem allI_map {bs : List Int} : allI (bs.map .int) = some bs := by
  induction bs with
  | nil => rfl
  | cons d ds ih => rw [List.map_cons, allI, ih]; rfl
theorem allB_mapf {β : Type} {f : β → Bool} {l : List β} : allB (l.map fun s => D.bl (f s)) = some (l.map f) := by
  rw [← allB_map, List.map_map]
  rfl
theorem allI_mapf {β : Type} {f : β → Int} {l : List β} : allI (l.map fun s => D.int (f s)) = some (l.map f) := by
  rw [← allI_map, List.map_map]
  rfl
theorem rng_0 {lo : Int} : rngS lo 0 = [] := rfl
theorem rng_1 {lo : Int} : rngS lo 1 = [.d (.int lo)] := by simp [rngS, List.range_succ]
theorem rng_2 {lo : Int} : rngS lo 2 = [.d (.int lo), .d (.int (lo + 1))] := by simp [rngS, List.range_succ]
theorem rng_3 {lo : Int} : rngS lo 3 = [.d (.int lo), .d (.int (lo + 1)), .d (.int (lo + 2))] := by simp [rngS, List.range_succ]
end Y

set_option Elab.async false
set_option linter.all false
set_option maxRecDepth 100000
set_option maxHeartbeats 2000000
namespace Y
open PySem PySem.Spec PyProof.Rows L2 StX
variable {w : World} [Tb w]
/-! ### step by step: what a goal asks next -/
/-- a step that is computed -/
def Lf {α : Sort _} (f : α → Prop) (q : α) : Prop := f q
theorem lf_go {α : Sort _} {f : α → Prop} {q : α} (h : ∀ Q, Q = q → f Q) : Lf f q := h q rfl
section
variable {ρ : Env} {ω : Sto} {q : S → Sto → Prop} {x : XD} {t u w : TD} {f g : FO} {c d : TTD} {ta : TAD} {D0 : D}
theorem g_c (h : q (.d D0) ω) : dC D0 ρ ω q x := h
theorem g_v {i : Nat} (h : dVar i ρ ω q x) : dVar i ρ ω q x := h
theorem g_st {i : Nat} {ed : EndsD} (h : dSet i t ed ρ ω) : dSet i t ed ρ ω := h
theorem g_gn {i : Nat} {s : S} {k : Env → Sto → Prop} (h : dgName i s ρ ω k) : dgName i s ρ ω k := h
theorem g_var0 {s : S} {r : Env} (h : q s ω) : dVar 0 (some s :: r) ω q x := h
theorem g_set0 {y : Option S} {r : Env} {nx : Env → Sto → Prop} {rt : S → Sto → Prop} {bk ct : Env → Sto → Prop} (h : t (y :: r) ω (fun s ω1 => nx (some s :: r) ω1) x) : dSet 0 t ⟨nx, rt, bk, ct, x⟩ (y :: r) ω := h
theorem g_gn0 {y : Option S} {s : S} {r : Env} {k : Env → Sto → Prop} (h : k (some s :: r) ω) : dgName 0 s (y :: r) ω k := h
theorem g_var1 {a0 : Option S} {s : S} {r : Env} (h : q s ω) : dVar 1 (a0 :: some s :: r) ω q x := h
theorem g_set1 {a0 : Option S} {y : Option S} {r : Env} {nx : Env → Sto → Prop} {rt : S → Sto → Prop} {bk ct : Env → Sto → Prop} (h : t (a0 :: y :: r) ω (fun s ω1 => nx (a0 :: some s :: r) ω1) x) : dSet 1 t ⟨nx, rt, bk, ct, x⟩ (a0 :: y :: r) ω := h
theorem g_gn1 {a0 : Option S} {y : Option S} {s : S} {r : Env} {k : Env → Sto → Prop} (h : k (a0 :: some s :: r) ω) : dgName 1 s (a0 :: y :: r) ω k := h
theorem g_var2 {a0 a1 : Option S} {s : S} {r : Env} (h : q s ω) : dVar 2 (a0 :: a1 :: some s :: r) ω q x := h
theorem g_set2 {a0 a1 : Option S} {y : Option S} {r : Env} {nx : Env → Sto → Prop} {rt : S → Sto → Prop} {bk ct : Env → Sto → Prop} (h : t (a0 :: a1 :: y :: r) ω (fun s ω1 => nx (a0 :: a1 :: some s :: r) ω1) x) : dSet 2 t ⟨nx, rt, bk, ct, x⟩ (a0 :: a1 :: y :: r) ω := h
theorem g_gn2 {a0 a1 : Option S} {y : Option S} {s : S} {r : Env} {k : Env → Sto → Prop} (h : k (a0 :: a1 :: some s :: r) ω) : dgName 2 s (a0 :: a1 :: y :: r) ω k := h
theorem g_var3 {a0 a1 a2 : Option S} {s : S} {r : Env} (h : q s ω) : dVar 3 (a0 :: a1 :: a2 :: some s :: r) ω q x := h
theorem g_set3 {a0 a1 a2 : Option S} {y : Option S} {r : Env} {nx : Env → Sto → Prop} {rt : S → Sto → Prop} {bk ct : Env → Sto → Prop} (h : t (a0 :: a1 :: a2 :: y :: r) ω (fun s ω1 => nx (a0 :: a1 :: a2 :: some s :: r) ω1) x) : dSet 3 t ⟨nx, rt, bk, ct, x⟩ (a0 :: a1 :: a2 :: y :: r) ω := h
theorem g_gn3 {a0 a1 a2 : Option S} {y : Option S} {s : S} {r : Env} {k : Env → Sto → Prop} (h : k (a0 :: a1 :: a2 :: some s :: r) ω) : dgName 3 s (a0 :: a1 :: a2 :: y :: r) ω k := h
theorem g_var4 {a0 a1 a2 a3 : Option S} {s : S} {r : Env} (h : q s ω) : dVar 4 (a0 :: a1 :: a2 :: a3 :: some s :: r) ω q x := h
theorem g_set4 {a0 a1 a2 a3 : Option S} {y : Option S} {r : Env} {nx : Env → Sto → Prop} {rt : S → Sto → Prop} {bk ct : Env → Sto → Prop} (h : t (a0 :: a1 :: a2 :: a3 :: y :: r) ω (fun s ω1 => nx (a0 :: a1 :: a2 :: a3 :: some s :: r) ω1) x) : dSet 4 t ⟨nx, rt, bk, ct, x⟩ (a0 :: a1 :: a2 :: a3 :: y :: r) ω := h
theorem g_gn4 {a0 a1 a2 a3 : Option S} {y : Option S} {s : S} {r : Env} {k : Env → Sto → Prop} (h : k (a0 :: a1 :: a2 :: a3 :: some s :: r) ω) : dgName 4 s (a0 :: a1 :: a2 :: a3 :: y :: r) ω k := h
theorem g_var5 {a0 a1 a2 a3 a4 : Option S} {s : S} {r : Env} (h : q s ω) : dVar 5 (a0 :: a1 :: a2 :: a3 :: a4 :: some s :: r) ω q x := h
theorem g_set5 {a0 a1 a2 a3 a4 : Option S} {y : Option S} {r : Env} {nx : Env → Sto → Prop} {rt : S → Sto → Prop} {bk ct : Env → Sto → Prop} (h : t (a0 :: a1 :: a2 :: a3 :: a4 :: y :: r) ω (fun s ω1 => nx (a0 :: a1 :: a2 :: a3 :: a4 :: some s :: r) ω1) x) : dSet 5 t ⟨nx, rt, bk, ct, x⟩ (a0 :: a1 :: a2 :: a3 :: a4 :: y :: r) ω := h
theorem g_gn5 {a0 a1 a2 a3 a4 : Option S} {y : Option S} {s : S} {r : Env} {k : Env → Sto → Prop} (h : k (a0 :: a1 :: a2 :: a3 :: a4 :: some s :: r) ω) : dgName 5 s (a0 :: a1 :: a2 :: a3 :: a4 :: y :: r) ω k := h
theorem g_var6 {a0 a1 a2 a3 a4 a5 : Option S} {s : S} {r : Env} (h : q s ω) : dVar 6 (a0 :: a1 :: a2 :: a3 :: a4 :: a5 :: some s :: r) ω q x := h
theorem g_set6 {a0 a1 a2 a3 a4 a5 : Option S} {y : Option S} {r : Env} {nx : Env → Sto → Prop} {rt : S → Sto → Prop} {bk ct : Env → Sto → Prop} (h : t (a0 :: a1 :: a2 :: a3 :: a4 :: a5 :: y :: r) ω (fun s ω1 => nx (a0 :: a1 :: a2 :: a3 :: a4 :: a5 :: some s :: r) ω1) x) : dSet 6 t ⟨nx, rt, bk, ct, x⟩ (a0 :: a1 :: a2 :: a3 :: a4 :: a5 :: y :: r) ω := h
theorem g_gn6 {a0 a1 a2 a3 a4 a5 : Option S} {y : Option S} {s : S} {r : Env} {k : Env → Sto → Prop} (h : k (a0 :: a1 :: a2 :: a3 :: a4 :: a5 :: some s :: r) ω) : dgName 6 s (a0 :: a1 :: a2 :: a3 :: a4 :: a5 :: y :: r) ω k := h
theorem g_var7 {a0 a1 a2 a3 a4 a5 a6 : Option S} {s : S} {r : Env} (h : q s ω) : dVar 7 (a0 :: a1 :: a2 :: a3 :: a4 :: a5 :: a6 :: some s :: r) ω q x := h
theorem g_set7 {a0 a1 a2 a3 a4 a5 a6 : Option S} {y : Option S} {r : Env} {nx : Env → Sto → Prop} {rt : S → Sto → Prop} {bk ct : Env → Sto → Prop} (h : t (a0 :: a1 :: a2 :: a3 :: a4 :: a5 :: a6 :: y :: r) ω (fun s ω1 => nx (a0 :: a1 :: a2 :: a3 :: a4 :: a5 :: a6 :: some s :: r) ω1) x) : dSet 7 t ⟨nx, rt, bk, ct, x⟩ (a0 :: a1 :: a2 :: a3 :: a4 :: a5 :: a6 :: y :: r) ω := h
theorem g_gn7 {a0 a1 a2 a3 a4 a5 a6 : Option S} {y : Option S} {s : S} {r : Env} {k : Env → Sto → Prop} (h : k (a0 :: a1 :: a2 :: a3 :: a4 :: a5 :: a6 :: some s :: r) ω) : dgName 7 s (a0 :: a1 :: a2 :: a3 :: a4 :: a5 :: a6 :: y :: r) ω k := h
theorem g_var8 {a0 a1 a2 a3 a4 a5 a6 a7 : Option S} {s : S} {r : Env} (h : q s ω) : dVar 8 (a0 :: a1 :: a2 :: a3 :: a4 :: a5 :: a6 :: a7 :: some s :: r) ω q x := h
theorem g_set8 {a0 a1 a2 a3 a4 a5 a6 a7 : Option S} {y : Option S} {r : Env} {nx : Env → Sto → Prop} {rt : S → Sto → Prop} {bk ct : Env → Sto → Prop} (h : t (a0 :: a1 :: a2 :: a3 :: a4 :: a5 :: a6 :: a7 :: y :: r) ω (fun s ω1 => nx (a0 :: a1 :: a2 :: a3 :: a4 :: a5 :: a6 :: a7 :: some s :: r) ω1) x) : dSet 8 t ⟨nx, rt, bk, ct, x⟩ (a0 :: a1 :: a2 :: a3 :: a4 :: a5 :: a6 :: a7 :: y :: r) ω := h
theorem g_gn8 {a0 a1 a2 a3 a4 a5 a6 a7 : Option S} {y : Option S} {s : S} {r : Env} {k : Env → Sto → Prop} (h : k (a0 :: a1 :: a2 :: a3 :: a4 :: a5 :: a6 :: a7 :: some s :: r) ω) : dgName 8 s (a0 :: a1 :: a2 :: a3 :: a4 :: a5 :: a6 :: a7 :: y :: r) ω k := h
theorem g_var9 {a0 a1 a2 a3 a4 a5 a6 a7 a8 : Option S} {s : S} {r : Env} (h : q s ω) : dVar 9 (a0 :: a1 :: a2 :: a3 :: a4 :: a5 :: a6 :: a7 :: a8 :: some s :: r) ω q x := h
theorem g_set9 {a0 a1 a2 a3 a4 a5 a6 a7 a8 : Option S} {y : Option S} {r : Env} {nx : Env → Sto → Prop} {rt : S → Sto → Prop} {bk ct : Env → Sto → Prop} (h : t (a0 :: a1 :: a2 :: a3 :: a4 :: a5 :: a6 :: a7 :: a8 :: y :: r) ω (fun s ω1 => nx (a0 :: a1 :: a2 :: a3 :: a4 :: a5 :: a6 :: a7 :: a8 :: some s :: r) ω1) x) : dSet 9 t ⟨nx, rt, bk, ct, x⟩ (a0 :: a1 :: a2 :: a3 :: a4 :: a5 :: a6 :: a7 :: a8 :: y :: r) ω := h
theorem g_gn9 {a0 a1 a2 a3 a4 a5 a6 a7 a8 : Option S} {y : Option S} {s : S} {r : Env} {k : Env → Sto → Prop} (h : k (a0 :: a1 :: a2 :: a3 :: a4 :: a5 :: a6 :: a7 :: a8 :: some s :: r) ω) : dgName 9 s (a0 :: a1 :: a2 :: a3 :: a4 :: a5 :: a6 :: a7 :: a8 :: y :: r) ω k := h
theorem g_var10 {a0 a1 a2 a3 a4 a5 a6 a7 a8 a9 : Option S} {s : S} {r : Env} (h : q s ω) : dVar 10 (a0 :: a1 :: a2 :: a3 :: a4 :: a5 :: a6 :: a7 :: a8 :: a9 :: some s :: r) ω q x := h
theorem g_set10 {a0 a1 a2 a3 a4 a5 a6 a7 a8 a9 : Option S} {y : Option S} {r : Env} {nx : Env → Sto → Prop} {rt : S → Sto → Prop} {bk ct : Env → Sto → Prop} (h : t (a0 :: a1 :: a2 :: a3 :: a4 :: a5 :: a6 :: a7 :: a8 :: a9 :: y :: r) ω (fun s ω1 => nx (a0 :: a1 :: a2 :: a3 :: a4 :: a5 :: a6 :: a7 :: a8 :: a9 :: some s :: r) ω1) x) : dSet 10 t ⟨nx, rt, bk, ct, x⟩ (a0 :: a1 :: a2 :: a3 :: a4 :: a5 :: a6 :: a7 :: a8 :: a9 :: y :: r) ω := h
theorem g_gn10 {a0 a1 a2 a3 a4 a5 a6 a7 a8 a9 : Option S} {y : Option S} {s : S} {r : Env} {k : Env → Sto → Prop} (h : k (a0 :: a1 :: a2 :: a3 :: a4 :: a5 :: a6 :: a7 :: a8 :: a9 :: some s :: r) ω) : dgName 10 s (a0 :: a1 :: a2 :: a3 :: a4 :: a5 :: a6 :: a7 :: a8 :: a9 :: y :: r) ω k := h
theorem g_var11 {a0 a1 a2 a3 a4 a5 a6 a7 a8 a9 a10 : Option S} {s : S} {r : Env} (h : q s ω) : dVar 11 (a0 :: a1 :: a2 :: a3 :: a4 :: a5 :: a6 :: a7 :: a8 :: a9 :: a10 :: some s :: r) ω q x := h
theorem g_set11 {a0 a1 a2 a3 a4 a5 a6 a7 a8 a9 a10 : Option S} {y : Option S} {r : Env} {nx : Env → Sto → Prop} {rt : S → Sto → Prop} {bk ct : Env → Sto → Prop} (h : t (a0 :: a1 :: a2 :: a3 :: a4 :: a5 :: a6 :: a7 :: a8 :: a9 :: a10 :: y :: r) ω (fun s ω1 => nx (a0 :: a1 :: a2 :: a3 :: a4 :: a5 :: a6 :: a7 :: a8 :: a9 :: a10 :: some s :: r) ω1) x) : dSet 11 t ⟨nx, rt, bk, ct, x⟩ (a0 :: a1 :: a2 :: a3 :: a4 :: a5 :: a6 :: a7 :: a8 :: a9 :: a10 :: y :: r) ω := h
theorem g_gn11 {a0 a1 a2 a3 a4 a5 a6 a7 a8 a9 a10 : Option S} {y : Option S} {s : S} {r : Env} {k : Env → Sto → Prop} (h : k (a0 :: a1 :: a2 :: a3 :: a4 :: a5 :: a6 :: a7 :: a8 :: a9 :: a10 :: some s :: r) ω) : dgName 11 s (a0 :: a1 :: a2 :: a3 :: a4 :: a5 :: a6 :: a7 :: a8 :: a9 :: a10 :: y :: r) ω k := h
theorem g_var12 {a0 a1 a2 a3 a4 a5 a6 a7 a8 a9 a10 a11 : Option S} {s : S} {r : Env} (h : q s ω) : dVar 12 (a0 :: a1 :: a2 :: a3 :: a4 :: a5 :: a6 :: a7 :: a8 :: a9 :: a10 :: a11 :: some s :: r) ω q x := h
theorem g_set12 {a0 a1 a2 a3 a4 a5 a6 a7 a8 a9 a10 a11 : Option S} {y : Option S} {r : Env} {nx : Env → Sto → Prop} {rt : S → Sto → Prop} {bk ct : Env → Sto → Prop} (h : t (a0 :: a1 :: a2 :: a3 :: a4 :: a5 :: a6 :: a7 :: a8 :: a9 :: a10 :: a11 :: y :: r) ω (fun s ω1 => nx (a0 :: a1 :: a2 :: a3 :: a4 :: a5 :: a6 :: a7 :: a8 :: a9 :: a10 :: a11 :: some s :: r) ω1) x) : dSet 12 t ⟨nx, rt, bk, ct, x⟩ (a0 :: a1 :: a2 :: a3 :: a4 :: a5 :: a6 :: a7 :: a8 :: a9 :: a10 :: a11 :: y :: r) ω := h
theorem g_gn12 {a0 a1 a2 a3 a4 a5 a6 a7 a8 a9 a10 a11 : Option S} {y : Option S} {s : S} {r : Env} {k : Env → Sto → Prop} (h : k (a0 :: a1 :: a2 :: a3 :: a4 :: a5 :: a6 :: a7 :: a8 :: a9 :: a10 :: a11 :: some s :: r) ω) : dgName 12 s (a0 :: a1 :: a2 :: a3 :: a4 :: a5 :: a6 :: a7 :: a8 :: a9 :: a10 :: a11 :: y :: r) ω k := h
theorem g_var13 {a0 a1 a2 a3 a4 a5 a6 a7 a8 a9 a10 a11 a12 : Option S} {s : S} {r : Env} (h : q s ω) : dVar 13 (a0 :: a1 :: a2 :: a3 :: a4 :: a5 :: a6 :: a7 :: a8 :: a9 :: a10 :: a11 :: a12 :: some s :: r) ω q x := h
theorem g_set13 {a0 a1 a2 a3 a4 a5 a6 a7 a8 a9 a10 a11 a12 : Option S} {y : Option S} {r : Env} {nx : Env → Sto → Prop} {rt : S → Sto → Prop} {bk ct : Env → Sto → Prop} (h : t (a0 :: a1 :: a2 :: a3 :: a4 :: a5 :: a6 :: a7 :: a8 :: a9 :: a10 :: a11 :: a12 :: y :: r) ω (fun s ω1 => nx (a0 :: a1 :: a2 :: a3 :: a4 :: a5 :: a6 :: a7 :: a8 :: a9 :: a10 :: a11 :: a12 :: some s :: r) ω1) x) : dSet 13 t ⟨nx, rt, bk, ct, x⟩ (a0 :: a1 :: a2 :: a3 :: a4 :: a5 :: a6 :: a7 :: a8 :: a9 :: a10 :: a11 :: a12 :: y :: r) ω := h
theorem g_gn13 {a0 a1 a2 a3 a4 a5 a6 a7 a8 a9 a10 a11 a12 : Option S} {y : Option S} {s : S} {r : Env} {k : Env → Sto → Prop} (h : k (a0 :: a1 :: a2 :: a3 :: a4 :: a5 :: a6 :: a7 :: a8 :: a9 :: a10 :: a11 :: a12 :: some s :: r) ω) : dgName 13 s (a0 :: a1 :: a2 :: a3 :: a4 :: a5 :: a6 :: a7 :: a8 :: a9 :: a10 :: a11 :: a12 :: y :: r) ω k := h
theorem g_var14 {a0 a1 a2 a3 a4 a5 a6 a7 a8 a9 a10 a11 a12 a13 : Option S} {s : S} {r : Env} (h : q s ω) : dVar 14 (a0 :: a1 :: a2 :: a3 :: a4 :: a5 :: a6 :: a7 :: a8 :: a9 :: a10 :: a11 :: a12 :: a13 :: some s :: r) ω q x := h
theorem g_set14 {a0 a1 a2 a3 a4 a5 a6 a7 a8 a9 a10 a11 a12 a13 : Option S} {y : Option S} {r : Env} {nx : Env → Sto → Prop} {rt : S → Sto → Prop} {bk ct : Env → Sto → Prop} (h : t (a0 :: a1 :: a2 :: a3 :: a4 :: a5 :: a6 :: a7 :: a8 :: a9 :: a10 :: a11 :: a12 :: a13 :: y :: r) ω (fun s ω1 => nx (a0 :: a1 :: a2 :: a3 :: a4 :: a5 :: a6 :: a7 :: a8 :: a9 :: a10 :: a11 :: a12 :: a13 :: some s :: r) ω1) x) : dSet 14 t ⟨nx, rt, bk, ct, x⟩ (a0 :: a1 :: a2 :: a3 :: a4 :: a5 :: a6 :: a7 :: a8 :: a9 :: a10 :: a11 :: a12 :: a13 :: y :: r) ω := h
theorem g_gn14 {a0 a1 a2 a3 a4 a5 a6 a7 a8 a9 a10 a11 a12 a13 : Option S} {y : Option S} {s : S} {r : Env} {k : Env → Sto → Prop} (h : k (a0 :: a1 :: a2 :: a3 :: a4 :: a5 :: a6 :: a7 :: a8 :: a9 :: a10 :: a11 :: a12 :: a13 :: some s :: r) ω) : dgName 14 s (a0 :: a1 :: a2 :: a3 :: a4 :: a5 :: a6 :: a7 :: a8 :: a9 :: a10 :: a11 :: a12 :: a13 :: y :: r) ω k := h
theorem g_var15 {a0 a1 a2 a3 a4 a5 a6 a7 a8 a9 a10 a11 a12 a13 a14 : Option S} {s : S} {r : Env} (h : q s ω) : dVar 15 (a0 :: a1 :: a2 :: a3 :: a4 :: a5 :: a6 :: a7 :: a8 :: a9 :: a10 :: a11 :: a12 :: a13 :: a14 :: some s :: r) ω q x := h
theorem g_set15 {a0 a1 a2 a3 a4 a5 a6 a7 a8 a9 a10 a11 a12 a13 a14 : Option S} {y : Option S} {r : Env} {nx : Env → Sto → Prop} {rt : S → Sto → Prop} {bk ct : Env → Sto → Prop} (h : t (a0 :: a1 :: a2 :: a3 :: a4 :: a5 :: a6 :: a7 :: a8 :: a9 :: a10 :: a11 :: a12 :: a13 :: a14 :: y :: r) ω (fun s ω1 => nx (a0 :: a1 :: a2 :: a3 :: a4 :: a5 :: a6 :: a7 :: a8 :: a9 :: a10 :: a11 :: a12 :: a13 :: a14 :: some s :: r) ω1) x) : dSet 15 t ⟨nx, rt, bk, ct, x⟩ (a0 :: a1 :: a2 :: a3 :: a4 :: a5 :: a6 :: a7 :: a8 :: a9 :: a10 :: a11 :: a12 :: a13 :: a14 :: y :: r) ω := h
theorem g_gn15 {a0 a1 a2 a3 a4 a5 a6 a7 a8 a9 a10 a11 a12 a13 a14 : Option S} {y : Option S} {s : S} {r : Env} {k : Env → Sto → Prop} (h : k (a0 :: a1 :: a2 :: a3 :: a4 :: a5 :: a6 :: a7 :: a8 :: a9 :: a10 :: a11 :: a12 :: a13 :: a14 :: some s :: r) ω) : dgName 15 s (a0 :: a1 :: a2 :: a3 :: a4 :: a5 :: a6 :: a7 :: a8 :: a9 :: a10 :: a11 :: a12 :: a13 :: a14 :: y :: r) ω k := h
theorem g_op (h : t ρ ω (fun s1 ω1 => u ρ ω1 (fun s2 ω2 => Lf (f s1 s2 ω2) q) x) x) : dOp f t u ρ ω q x := h
theorem g_cons {Q : List S → Sto → Prop} (h : t ρ ω (fun s ω1 => ta ρ ω1 (fun ss ω2 => Q (s :: ss) ω2) x) x) : dCons t ta ρ ω Q x := h
theorem g_nil {Q : List S → Sto → Prop} (h : Q [] ω) : dNil ρ ω Q x := h
theorem g_star {Q : List S → Sto → Prop} (h : t ρ ω (fun s ω1 => Lf (fun k : List S → Sto → Prop => match spreadS s ω1 with | some ys => k ys ω1 | none => False) (fun ys ω1 => ta ρ ω1 (fun ss ω2 => Q (ys ++ ss) ω2) x)) x) : dStar t ta ρ ω Q x := h
theorem g_test {Q : Bool → Sto → Prop} (h : t ρ ω (asB Q) x) : dTest t ρ ω Q x := h
theorem g_asB {Q : Bool → Sto → Prop} {b : Bool} (h : Q b ω) : asB Q (.d (.bl b)) ω := h
theorem g_true {A B : Prop} (h : A) : if true = true then A else B := h
theorem g_false {A B : Prop} (h : B) : if false = true then A else B := by simpa using h
theorem g_dec {A B p : Prop} [Decidable p] (h : if p then A else B) : if decide p = true then A else B := by simpa using h
theorem g_nt {A B : Prop} {b : Bool} (h : if b = true then B else A) : if (!b) = true then A else B := by cases b <;> simpa using h
theorem g_pos {A B p : Prop} [Decidable p] (hp : p) (h : A) : if p then A else B := by rw [if_pos hp]; exact h
theorem g_neg {A B p : Prop} [Decidable p] (hp : ¬ p) (h : B) : if p then A else B := by rw [if_neg hp]; exact h
theorem g_un {f1 : S → Sto → (S → Sto → Prop) → Prop} (h : t ρ ω (fun s ω1 => Lf (f1 s ω1) q) x) : dUn f1 t ρ ω q x := h
theorem g_b {f1 : CB} (h : ta ρ ω (fun ss ω1 => Lf (f1 ss ω1) q) x) : dB f1 ta ρ ω q x := h
theorem g_notTv (h : t ρ ω (fun s ω' => Lf (truD s ω') fun b ω2 => q (.d (.bl (!b))) ω2) x) : dNotTv t ρ ω q x := h
theorem g_andT {Q : Bool → Sto → Prop} (h : c ρ ω (fun b ω1 => if b = true then d ρ ω1 Q x else Q false ω1) x) : dAndT c d ρ ω Q x := h
theorem g_orT {Q : Bool → Sto → Prop} (h : c ρ ω (fun b ω1 => if b = true then Q true ω1 else d ρ ω1 Q x) x) : dOrT c d ρ ω Q x := h
theorem g_notT {Q : Bool → Sto → Prop} (h : c ρ ω (fun b ω1 => Q (!b) ω1) x) : dNotT c ρ ω Q x := h
theorem g_andV (h : t ρ ω (asB fun b ω1 => if b = true then u ρ ω1 q x else q (.d (.bl false)) ω1) x) : dAndV t u ρ ω q x := h
theorem g_orV (h : t ρ ω (asB fun b ω1 => if b = true then q (.d (.bl true)) ω1 else u ρ ω1 q x) x) : dOrV t u ρ ω q x := h
theorem g_notV (h : t ρ ω (asB fun b ω1 => q (.d (.bl (!b))) ω1) x) : dNotV t ρ ω q x := h
theorem g_tru {Q : Bool → Sto → Prop} (h : t ρ ω (fun s ω' => Lf (truD s ω') Q) x) : dTru t ρ ω Q x := h
theorem g_if (h : c ρ ω (fun b ω1 => if b = true then t ρ ω1 q x else u ρ ω1 q x) x) : dIf c t u ρ ω q x := h
theorem g_chain (h : t ρ ω (fun s1 ω1 => u ρ ω1 (fun s2 ω2 => Lf (f s1 s2 ω2) (asB fun b ω3 => if b = true then w ρ ω3 (fun s3 ω4 => Lf (g s2 s3 ω4) q) x else q (.d (.bl false)) ω3)) x) x) : dChain f g t u w ρ ω q x := h
theorem g_mt {Ty : String} {m : FM} (h : t ρ ω (fun s ω1 => Lf (fun k : Prop => tyOk Ty s ω1 ∧ k) (ta ρ ω1 (fun ss ω2 => Lf (m s ss ω2) q) x)) x) : dMt Ty m t ta ρ ω q x := h
theorem g_mt0 {Ty : String} {m : FM} (h : t ρ ω (fun s ω1 => Lf (fun k : Prop => tyOk Ty s ω1 ∧ k) (Lf (m s [] ω1) q)) x) : dMt0 Ty m t ρ ω q x := h
theorem g_isi {T : String} (h : t ρ ω (fun s ω1 => Lf (isiD T s ω1) q) x) : dIsi T t ρ ω q x := h
theorem g_tup (h : ta ρ ω (fun ss ω' => Lf (fun k : S → Sto → Prop => match allD ss with | some ds => ds.length ≤ 1000 ∧ k (.d (.tup ds)) ω' | none => False) q) x) : dTup ta ρ ω q x := h
theorem g_lstD (h : ta ρ ω (fun ss ω' => Lf (fun k : S → Sto → Prop => match allD ss with | some ds => ds.length ≤ 1000 ∧ k (.d (.lst ds)) ω' | none => False) q) x) : dLstD ta ρ ω q x := h
theorem g_lst (h : ta ρ ω (fun ss ω' => Lf (fun k : S → Sto → Prop => ss.length ≤ 1000 ∧ k (.pin ω'.length) (ω' ++ [.lst ss])) q) x) : dLst ta ρ ω q x := h
theorem g_call {C : CP} (h : ta ρ ω (fun ss ω1 => Lf (allDk ss) fun ds => C ds (fun d => q (.d d) ω1)) x) : dCall C ta ρ ω q x := h
theorem g_callX {C : CPX} (h : ta ρ ω (fun ss ω1 => Lf (allDk ss) fun ds => C ds (fun d => q (.d d) ω1) x) x) : dCallX C ta ρ ω q x := h
theorem g_callG {G : CG} (h : ta ρ ω (fun ss ω1 => G ss ω1 q) x) : dCallG G ta ρ ω q x := h
theorem g_callGX {G : CGX} (h : ta ρ ω (fun ss ω1 => G ss ω1 q x) x) : dCallGX G ta ρ ω q x := h
theorem g_loc {i : Nat} {fa : Addr} (h0 : ρ[i]? = some (some (.d (.fn fa)))) (h : t ρ ω q x) : dLoc i fa t ρ ω q x := ⟨h0, h⟩
theorem g_sl {l h : TOD} (hh : t ρ ω (fun s ω1 => l ρ ω1 (fun lo ω2 => h ρ ω2 (fun hi ω3 => Lf (slD s lo hi ω3) q) x) x) x) : dSl t l h ρ ω q x := hh
theorem g_noPart {Q : Option Int → Sto → Prop} (h : Q none ω) : dNoPart ρ ω Q x := h
def PartI (s : S) (ω : Sto) (Q : Option Int → Sto → Prop) : Prop := match s with | .d (.int i) => Q (some i) ω | _ => False
theorem g_part {Q : Option Int → Sto → Prop} (h : t ρ ω (fun s ω' => PartI s ω' Q) x) : dPart t ρ ω Q x := h
theorem g_partI {Q : Option Int → Sto → Prop} {i : Int} (h : Q (some i) ω) : PartI (.d (.int i)) ω Q := h
theorem g_newK (h : q (.pin ω.length) (ω ++ [.dK []])) : dNewK ρ ω q x := h
theorem g_newT (h : q (.pin ω.length) (ω ++ [.dT []])) : dNewT ρ ω q x := h
theorem g_pairs0 {Q : List (Key × S) → Sto → Prop} (h : Q [] ω) : dPairs [] ρ ω Q x := h
theorem g_pairsS {Q : List (Key × S) → Sto → Prop} {k : Str} {r : List (TD × TD)} (h : t ρ ω (fun y ω2 => dPairs r ρ ω2 (fun kvs ω3 => Q ((.inr k, y) :: kvs) ω3) x) x) : dPairs ((dC (.str k), t) :: r) ρ ω Q x := h
theorem g_pairsI {Q : List (Key × S) → Sto → Prop} {k : Int} {r : List (TD × TD)} (h : t ρ ω (fun y ω2 => dPairs r ρ ω2 (fun kvs ω3 => Q ((.inl k, y) :: kvs) ω3) x) x) : dPairs ((dC (.int k), t) :: r) ρ ω Q x := h
theorem g_disp {tds : List (TD × TD)} (h : dPairs tds ρ ω (fun kvs ω' => Lf (fun k : S → Sto → Prop => kvs.length ≤ 15 ∧ k (.pin ω'.length) (ω' ++ [.dK (mergeS [] kvs)])) q) x) : dDisp tds ρ ω q x := h
theorem g_yes {Q : Bool → Sto → Prop} (h : Q true ω) : dYes ρ ω Q x := h
/-! targets -/
theorem g_gNil {Q : Env → Sto → Prop} (h : Q ρ ω) : dgNil [] ρ ω Q := ⟨rfl, h⟩
theorem g_gCons {Q : Env → Sto → Prop} {gd : TGD} {us : TGsD} {d : D} {r : List D} (h : gd (.d d) ρ ω (fun ρ1 ω1 => us r ρ1 ω1 Q)) : dgCons gd us (d :: r) ρ ω Q := h
theorem g_gTup2 {Q : Env → Sto → Prop} {us : TGsD} {a b : D} (h : us [a, b] ρ ω Q) : dgTup 2 us (.d (.tup [a, b])) ρ ω Q := ⟨rfl, h⟩
theorem g_gTup3 {Q : Env → Sto → Prop} {us : TGsD} {a b c : D} (h : us [a, b, c] ρ ω Q) : dgTup 3 us (.d (.tup [a, b, c])) ρ ω Q := ⟨rfl, h⟩
theorem g_gTup4 {Q : Env → Sto → Prop} {us : TGsD} {a b c d : D} (h : us [a, b, c, d] ρ ω Q) : dgTup 4 us (.d (.tup [a, b, c, d])) ρ ω Q := ⟨rfl, h⟩
/-! what is walked -/
section
variable {Q : List S → (Sto → Prop) → Sto → Prop}
theorem g_seqI (h : t ρ ω (fun s ω' => Lf (seqD s ω') Q) x) : dSeqI t ρ ω Q x := h
theorem g_revI (h : t ρ ω (fun s ω' => Lf (revSeqD s ω') Q) x) : dRevI t ρ ω Q x := h
theorem g_rng1 (h : ta ρ ω (fun ss ω' => Lf (fun k : List S → (Sto → Prop) → Sto → Prop => match ss with | [.d (.int j)] => int62 j ∧ k (rngS 0 j.toNat) (fun _ => True) ω' | _ => False) Q) x) : dRng1 ta ρ ω Q x := h
theorem g_rng2 (h : ta ρ ω (fun ss ω' => Lf (fun k : List S → (Sto → Prop) → Sto → Prop => match ss with | [.d (.int i), .d (.int j)] => (int62 i ∧ int62 j) ∧ k (rngS i (j - i).toNat) (fun _ => True) ω' | _ => False) Q) x) : dRng2 ta ρ ω Q x := h
end
/-! statements -/
section
variable {nx bk ct : Env → Sto → Prop} {rt : S → Sto → Prop} {ts us : TSD} {it : TID} {gd : TGD} {P : Sto → Prop} {s : S} {is r : List S}
theorem g_seq (h : ts ⟨us ⟨nx, rt, bk, ct, x⟩, rt, bk, ct, x⟩ ρ ω) : dSeq ts us ⟨nx, rt, bk, ct, x⟩ ρ ω := h
theorem seq_go (h : ∀ N, N = us ⟨nx, rt, bk, ct, x⟩ → ts ⟨N, rt, bk, ct, x⟩ ρ ω) : dSeq ts us ⟨nx, rt, bk, ct, x⟩ ρ ω := h _ rfl
theorem g_next (h : nx ρ ω) : dNext ⟨nx, rt, bk, ct, x⟩ ρ ω := h
theorem g_break (h : bk ρ ω) : dBreak ⟨nx, rt, bk, ct, x⟩ ρ ω := h
theorem g_cont (h : ct ρ ω) : dCont ⟨nx, rt, bk, ct, x⟩ ρ ω := h
theorem g_ret (h : t ρ ω rt x) : dRet t ⟨nx, rt, bk, ct, x⟩ ρ ω := h
theorem g_retN (h : rt (.d .non) ω) : dRetN ⟨nx, rt, bk, ct, x⟩ ρ ω := h
theorem g_ifS (h : c ρ ω (fun b ω1 => if b = true then ts ⟨nx, rt, bk, ct, x⟩ ρ ω1 else us ⟨nx, rt, bk, ct, x⟩ ρ ω1) x) : dIfS c ts us ⟨nx, rt, bk, ct, x⟩ ρ ω := h
theorem g_drop (h : t ρ ω (fun _ ω' => nx ρ ω') x) : dDrop t ⟨nx, rt, bk, ct, x⟩ ρ ω := h
theorem g_putS {td ty tv : TD} (h : tv ρ ω (fun y ω1 => td ρ ω1 (fun o ω2 => ty ρ ω2 (fun i ω3 => Lf (putD o i y ω3) (nx ρ)) x) x) x) : dPutS td ty tv ⟨nx, rt, bk, ct, x⟩ ρ ω := h
theorem g_for (h : it ρ ω (fun is P ω' => P ω' ∧ forR gd ts ⟨nx, rt, bk, ct, x⟩ P is ρ ω') x) : dFor it gd ts ⟨nx, rt, bk, ct, x⟩ ρ ω := h
theorem g_forNil (h : nx ρ ω) : forR gd ts ⟨nx, rt, bk, ct, x⟩ P [] ρ ω := h
theorem g_forCons (h : gd s ρ ω (fun ρ1 ω1 => ts ⟨fun ρ' ω' => P ω' ∧ forR gd ts ⟨nx, rt, bk, ct, x⟩ P r ρ' ω', rt, nx, fun ρ' ω' => P ω' ∧ forR gd ts ⟨nx, rt, bk, ct, x⟩ P r ρ' ω', x⟩ ρ1 ω1)) : forR gd ts ⟨nx, rt, bk, ct, x⟩ P (s :: r) ρ ω := h
theorem for_ind (I : List S → Env → Sto → Prop) (h0 : I is ρ ω) (hs : ∀ s r ρ ω (nx' : Env → Sto → Prop), I (s :: r) ρ ω → (∀ ρ' ω', P ω' → I r ρ' ω' → nx' ρ' ω') → gd s ρ ω (fun ρ1 ω1 => ts ⟨nx', rt, nx, nx', x⟩ ρ1 ω1)) (he : ∀ ρ ω, I [] ρ ω → nx ρ ω) : forR gd ts ⟨nx, rt, bk, ct, x⟩ P is ρ ω := by
  induction is generalizing ρ ω with
  | nil => exact he _ _ h0
  | cons s r ih => exact hs s r ρ ω _ h0 fun ρ' ω' hp hi => ⟨hp, ih hi⟩
theorem while_ind {n : Nat} (I : Nat → Env → Sto → Prop) (h0 : I n ρ ω) (hs : ∀ n ρ ω (nx' : Env → Sto → Prop), I n ρ ω → (∀ m ρ' ω', m < n → I m ρ' ω' → nx' ρ' ω') → c ρ ω (fun b ω1 => if b = true then ts ⟨nx', rt, nx, nx', x⟩ ρ ω1 else nx ρ ω1) x) : dWhile c ts ⟨nx, rt, bk, ct, x⟩ ρ ω := by
  refine ⟨n + 1, ?_⟩
  have : ∀ k n, n < k → ∀ ρ ω, I n ρ ω → whR c ts ⟨nx, rt, bk, ct, x⟩ k ρ ω := by
    intro k
    induction k with
    | zero => intro n h; omega
    | succ k ih => exact fun n h ρ ω hi => hs n ρ ω _ hi fun m ρ' ω' hm hi' => ih m (by omega) ρ' ω' hi'
  exact this (n + 1) n (by omega) ρ ω h0
end
/-! comprehensions -/
section
variable {it : TID} {gd : TGD} {td : TTD} {ed : TD} {vs : List Nat} {P : Sto → Prop} {s : S} {is r acc : List S} {fin : List S → Sto → Prop}
def Wp (vs : List Nat) (ρ : Env) (k : Env → Prop) : Prop := k (wipeD ρ vs)
theorem g_lc {fin : (S → Sto → Prop) → List S → Sto → Prop} (h : it ρ ω (fun is P ω1 => P ω1 ∧ Wp vs ρ fun ρ' => lcR gd td ed ρ' P x (fin q) is [] ω1) x) : dLc it gd td ed vs fin ρ ω q x := h
theorem g_lcB {k : Env → Prop} (h : Lf (fun k : Env → Prop => k (wipeD ρ vs)) k) : Wp vs ρ k := h
theorem g_lcNil (h : fin acc ω) : lcR gd td ed ρ P x fin [] acc ω := h
theorem g_lcCons (h : gd s ρ ω (fun ρ1 ω1 => td ρ1 ω1 (fun b ω2 => if b = true then ed ρ1 ω2 (fun y ω3 => acc.length < 1000000 ∧ P ω3 ∧ lcR gd td ed ρ P x fin r (acc ++ [y]) ω3) x else P ω2 ∧ lcR gd td ed ρ P x fin r acc ω2) x)) : lcR gd td ed ρ P x fin (s :: r) acc ω := h
theorem lc_ind (I : List S → List S → Sto → Prop) (h0 : I is acc ω) (hs : ∀ s r acc ω (k : List S → Sto → Prop), I (s :: r) acc ω → (∀ acc' ω', I r acc' ω' → k acc' ω') → gd s ρ ω (fun ρ1 ω1 => td ρ1 ω1 (fun b ω2 => if b = true then ed ρ1 ω2 (fun y ω3 => acc.length < 1000000 ∧ P ω3 ∧ k (acc ++ [y]) ω3) x else P ω2 ∧ k acc ω2) x)) (he : ∀ acc ω, I [] acc ω → fin acc ω) : lcR gd td ed ρ P x fin is acc ω := by
  induction is generalizing acc ω with
  | nil => exact he _ _ h0
  | cons s r ih => exact hs s r acc ω _ h0 fun acc' ω' hi => ih hi
theorem lc_filG {β : Type} {ts : List β} (vd : β → D) (F : β → Option D) (hl : ts.length < 1000000) (hs : ∀ t ∈ ts, ∀ (acc : List S) (k : List S → Sto → Prop), acc.length < 1000000 → (match F t with | some d => k (acc ++ [.d d]) ω | none => k acc ω) → gd (.d (vd t)) ρ ω (fun ρ1 ω1 => td ρ1 ω1 (fun b ω2 => if b = true then ed ρ1 ω2 (fun y ω3 => acc.length < 1000000 ∧ P ω3 ∧ k (acc ++ [y]) ω3) x else P ω2 ∧ k acc ω2) x)) (he : fin ((ts.filterMap F).map S.d) ω) : lcR gd td ed ρ P x fin ((ts.map vd).map S.d) [] ω := by
  refine lc_ind (fun is acc ω' => ω' = ω ∧ ∃ done rest, done ++ rest = ts ∧ is = (rest.map vd).map S.d ∧ acc = (done.filterMap F).map S.d) ⟨rfl, [], ts, rfl, rfl, rfl⟩ (fun s r acc ω' k h hk => ?_) (fun acc ω' h => ?_)
  · obtain ⟨rfl, done, rest, e, e2, rfl⟩ := h
    cases rest with
    | nil => cases e2
    | cons t rest =>
      rw [List.map_cons, List.map_cons] at e2
      obtain ⟨rfl, rfl⟩ := List.cons.inj e2
      have hlen : ((done.filterMap F).map S.d).length < 1000000 := by
        have h1 := List.length_filterMap_le F done
        have h2 := congrArg List.length e
        rw [List.length_append] at h2
        rw [List.length_map]
        omega
      refine hs t (by rw [← e]; simp) _ k hlen ?_
      have e3 : (done ++ [t]) ++ rest = ts := by rw [← e]; simp
      cases hF : F t with
      | some d => exact hk _ _ ⟨rfl, done ++ [t], rest, e3, rfl, by rw [List.filterMap_append, List.map_append, List.filterMap_cons, hF]; rfl⟩
      | none => exact hk _ _ ⟨rfl, done ++ [t], rest, e3, rfl, by rw [List.filterMap_append, List.map_append, List.filterMap_cons, hF]; simp⟩
  · obtain ⟨rfl, done, rest, e, e2, rfl⟩ := h
    cases rest with
    | cons t rest => cases e2
    | nil =>
      rw [List.append_nil] at e
      subst e
      exact he
theorem lc_mapG {β : Type} {ts : List β} (vd F : β → D) (hl : ts.length < 1000000) (hs : ∀ t ∈ ts, ∀ (acc : List S) (k : List S → Sto → Prop), acc.length < 1000000 → k (acc ++ [.d (F t)]) ω → gd (.d (vd t)) ρ ω (fun ρ1 ω1 => td ρ1 ω1 (fun b ω2 => if b = true then ed ρ1 ω2 (fun y ω3 => acc.length < 1000000 ∧ P ω3 ∧ k (acc ++ [y]) ω3) x else P ω2 ∧ k acc ω2) x)) (he : fin ((ts.map F).map S.d) ω) : lcR gd td ed ρ P x fin ((ts.map vd).map S.d) [] ω :=
  lc_filG vd (fun t => some (F t)) hl (fun t ht acc k h1 h2 => hs t ht acc k h1 h2) (by rw [List.filterMap_eq_map']; exact he)
theorem lc_mapD {ds : List D} (F : D → D) (hl : ds.length < 1000000) (hs : ∀ t ∈ ds, ∀ (acc : List S) (k : List S → Sto → Prop), acc.length < 1000000 → k (acc ++ [.d (F t)]) ω → gd (.d t) ρ ω (fun ρ1 ω1 => td ρ1 ω1 (fun b ω2 => if b = true then ed ρ1 ω2 (fun y ω3 => acc.length < 1000000 ∧ P ω3 ∧ k (acc ++ [y]) ω3) x else P ω2 ∧ k acc ω2) x)) (he : fin ((ds.map F).map S.d) ω) : lcR gd td ed ρ P x fin (ds.map S.d) [] ω := by
  have := lc_mapG (gd := gd) (td := td) (ed := ed) (ρ := ρ) (ω := ω) (P := P) (x := x) (fin := fin) (ts := ds) (fun d => d) F hl hs he
  simpa using this
theorem g_finD {ds : List D} (h : q (.d (.lst ds)) ω) : finD q (ds.map S.d) ω := by unfold finD; rw [allD_map]; exact h
theorem g_finD2 (h : Lf (fun k : S → Sto → Prop => match allD acc with | some ds => k (.d (.lst ds)) ω | none => False) q) : finD q acc ω := h
theorem g_finP (h : q (.pin ω.length) (ω ++ [.lst acc])) : finP q acc ω := h
end
/-! the ends of a def -/
theorem g_rtP {Q : D → Prop} (h : Q D0) : rtP Q (.d D0) ω := h
theorem g_rtPin {Q : D → Prop} {j : Nat} (h : Lf (fun k : D → Prop => match ω[j]? with | some c => (match frzC c with | some d => k d | none => False) | none => False) Q) : rtP Q (.pin j) ω := h
theorem start_eq {N : List Str} {ss : List S} : startD N ss = ss.map some ++ List.replicate (N.length - ss.length) none := rfl
theorem g_endsP {ts : TSD} {Q : D → Prop} (h : ts ⟨fun _ _ => Q .non, rtP Q, fun _ _ => False, fun _ _ => False, x⟩ ρ ω) : ts (endsP Q x) ρ ω := h
theorem g_endsG {ts : TSD} (h : ts ⟨fun _ ω => q (.d .non) ω, q, fun _ _ => False, fun _ _ => False, x⟩ ρ ω) : ts (endsG q x) ρ ω := h
end
end Y

set_option Elab.async false
set_option linter.all false
set_option maxRecDepth 100000
set_option maxHeartbeats 2000000
/-! lambdas that capture names; a def that calls what it got -/
namespace XC
open PySem PySem.Spec PyProof.Rows L2 LamX NdefX
/-- the lambda's function object at f, its code object at c', the cells cl -/
def LamO (f : Addr) (q : Str) (params : Arguments) (body : Expr) (scope : Scope) (cl : List (Str × Addr)) (c' : Addr) : HO := .ext fun h => ∃ pm ctv : Value, h.get? f = some (PySem.W.kla_obj "<lambda>" q params body scope cl pm c' ctv)
/-- the table at P: each code object that it tells is known -/
def TabH (B H : Hp) (P : Addr) (nm : Nat → Nat → Str) : Prop := ∃ ps : Array Value, H P = some (.tbl ps) ∧ TriplesOk ps.toList ∧ ∀ (pos : Pos) (cv : Value), codeAmong pos ps.toList = some cv → ∃ c, cv = .ref c ∧ B c = some (CodeO c (nm pos.line pos.col))
section
variable {X : Cx} {pins : List (Addr × Obj)} {σ : L2.St} {H : Hp} {s : Shared}
theorem adoptC {a : Addr} {o : HO} (I : Inv X pins σ H s) (f : FpOk X pins H a) (hx : a ∉ X.ex) (new : ObjOk X.prog X.w (upd H a o) s.heap a o) : Inv X pins σ (upd H a o) s := by
  obtain ⟨f0, f1, f2, f3, f4, f5⟩ := f
  have h3 : X.s_0.heap.objs.size ≤ a := f3.resolve_left hx
  have ne0 : ∀ b ob, X.s_0.heap.get? b = some ob → b ≠ a := fun b ob e z => by
    rw [z] at e
    exact Nat.lt_irrefl _ (Nat.lt_of_lt_of_le (Heap.lt_size e) h3)
  have nes : ∀ b u, H b = some u → b ≠ a := fun b u e z => by rw [z, f0] at e; cases e
  have U := I.base
  refine ⟨I.ok, I.os, I.bare, ⟨U.keep, U.slot, fun b ob q n hb => ?_, U.there, fun b xs q => ?_, fun b ob u q => ?_, fun b ps q => ?_⟩, I.loc, I.cell, ?_, fun x c e => ?_, fun p hp => ?_, fun b u e => ?_, I.len⟩
  · rw [upd_ne (ne0 b ob q)]; exact U.free b ob q n hb
  · have z := U.tups b xs q
    rw [upd_ne (nes b _ z)]; exact z
  · have z := U.frzs b ob u q
    rw [upd_ne (nes b _ z)]; exact z
  · obtain ⟨more, z⟩ := U.tbls b ps q
    exact ⟨more, by rw [upd_ne (nes b _ z)]; exact z⟩
  · rw [upd_ne (Ne.symm f1)]; exact I.free
  · rw [upd_ne (f4 x c e)]; exact I.freeC x c e
  · obtain ⟨z1, z2, z3, z4, z5⟩ := I.pin p hp
    refine ⟨z1, ?_, z3, z4, z5⟩
    rw [upd_ne (f5 p hp)]; exact z2
  · by_cases hb : b = a
    · subst hb
      rw [upd_same] at e
      cases e
      exact new
    · rw [upd_ne hb] at e
      exact (I.hok b u e).stay (fun c v _ q => q) (fun c q => by rw [upd_ne (nes c _ q)]; exact q) fun c xs q => by rw [upd_ne (nes c _ q)]; exact q
/-- lambda ..: body -/
def tLamP (P : Addr) (nm : Nat → Nat → Str) (q : Str) (params : Arguments) (body : Expr) (scope : Scope) (cl : List (Str × Addr)) : TE := fun σ H Q => ∃ B : Hp, Same B H ∧ TabH B H P nm ∧
  (∀ f c', B c' = some (CodeO c' q) → H f = none → Q (.ref f) (upd H f (LamO f q params body scope cl c'))) ∧
  ∀ f c' (ps' : Array Value), H c' = none → H f = none → f ≠ c' → TriplesOk ps'.toList → (∀ (p' : Pos) (cv : Value), codeAmong p' ps'.toList = some cv → (∃ c, cv = .ref c ∧ B c = some (CodeO c (nm p'.line p'.col))) ∨ (cv = .ref c' ∧ nm p'.line p'.col = q)) →
    Q (.ref f) (upd (upd (upd H P (.tbl ps')) c' (CodeO c' q)) f (LamO f q params body scope cl c'))
theorem pe_lamP {P c : Addr} {nm : Nat → Nat → Str} {params : Arguments} {body : Expr} {scope : Scope} {pos : Pos} {cl : List (Str × Addr)} (TB : TabB X.base X.mg c P) (hcode : X.env.code = .ref c) (hex : X.ex = [])
    (hn : nm pos.line pos.col = X.env.qual ++ "<lambda>") (hdef : defaultsOf params X.env = ([], [])) (hfree : ∀ y ∈ scope.names, y.2 = .free → X.env.scope.names.lookup y.1 = some .cell ∨ X.env.scope.names.lookup y.1 = some .free) (hcl : cloFrom X.env.cells scope.names [] = cl) :
    PE X (.Lambda params body scope pos) (tLamP P nm (X.env.qual ++ "<lambda>") params body scope cl) := by
  subst hcl
  refine ⟨fun pins s σ H Q I h => ?_⟩
  obtain ⟨B, gB, ⟨ps, hP, ht, ha⟩, hit, new⟩ := h
  have hfree' : ∀ y ∈ scope.names, y.2 = .free → ∃ c, X.env.cells.lookup y.1 = some c := fun y hy e => (hfree y hy e).elim (fun z => I.ok.has _ (.inl z)) fun z => I.ok.has _ (.inr z)
  refine PySem.W.kla_eval hdef ?_
  have bP : s.heap.BuiltinsAt X.mg P := TB.bm.keeps I.bk
  have hP' : s.heap.get? P = some { cls := .none, data := .fields ps } := I.hok P _ hP
  have done : ∀ (f c' : Addr) (pm ctv : Value) (H1 : Hp) (s' : Shared), Inv X pins σ H1 s' → s'.heap.get? f = some (PySem.W.kla_obj "<lambda>" (X.env.qual ++ "<lambda>") params body scope (cloFrom X.env.cells scope.names []) pm c' ctv) →
      s.heap.objs.size ≤ f → H1 f = none → Q (.ref f) (upd H1 f (LamO f (X.env.qual ++ "<lambda>") params body scope (cloFrom X.env.cells scope.names []) c')) → EP X pins σ Q (.ref f) s' := fun f c' pm ctv H1 s' I1 e3 e4 e5 q =>
    ⟨.ref f, _, adoptC I1 (o := LamO f (X.env.qual ++ "<lambda>") params body scope (cloFrom X.env.cells scope.names []) c') (I.fpOk e4 e5) (by rw [hex]; simp) ⟨⟨pm, ctv, e3⟩, ⟨_, e3⟩, fun h1 h2 ⟨pm, ctv, z⟩ st => ⟨pm, ctv, st _ z⟩⟩, rfl, q⟩
  cases hc : codeAmong pos ps.toList with
  | none =>
    refine PySem.W.kla_makeFunction (mg := X.mg) (c := c) (P := P) (ps := ps) (closure_ok hfree') I.ok.glob (I.mod.glob.keeps I.bk) hcode (TB.code.keeps I.bk) hP' ht hc TB.gP bP fun c' ctv h' tk hx hge hlt hrec htb => ?_
    obtain ⟨c2, oc, vs, t, e2, hoc, hd, hv⟩ := hrec
    cases e2
    have hsz : s.heap.objs.size ≤ h'.objs.size := Nat.le_trans hge (Nat.le_of_lt hlt)
    have nC : H c' = none := I.hok.fresh hge
    have I1 := inv_table (t' := tk) (more := #[rawInt pos.line, rawInt pos.col, .ref c']) (h' := h'.push (PySem.W.kla_obj "<lambda>" (X.env.qual ++ "<lambda>") params body scope (cloFrom X.env.cells scope.names []) ((X.mg "__name__").getD .none) c' ctv)) I hP
      (fun b o hb e => Heap.get?_push_of_some _ (hx b o hb e)) (Heap.get?_push_of_some _ htb) hge ⟨oc, vs, t, Heap.get?_push_of_some _ hoc, hd, hv⟩
    have eL : (ps ++ #[rawInt pos.line, rawInt pos.col, .ref c']).toList = ps.toList ++ [rawInt pos.line, rawInt pos.col, .ref c'] := by simp
    have n1 : h'.objs.size ≠ c' := Nat.ne_of_gt hlt
    have n2 : h'.objs.size ≠ P := Nat.ne_of_gt (Nat.lt_of_lt_of_le (Heap.lt_size hP') hsz)
    refine done h'.objs.size c' ((X.mg "__name__").getD .none) ctv _ _ I1 (Heap.get?_push_size _ rfl) hsz ?_ (new _ c' _ nC (I.hok.fresh hsz) n1 (by rw [eL]; exact PySem.TriplesOk_snoc _ _ _ _ ht) fun p' cv hcv => ?_)
    · rw [upd_ne n1, upd_ne n2]
      exact I.hok.fresh hsz
    · rw [eL] at hcv
      rcases among_app2 _ ht hcv with z | ⟨z, z1, z2⟩
      · exact .inl (ha p' cv z)
      · exact .inr ⟨z, by rw [← z1, ← z2, hn]⟩
  | some cv =>
    obtain ⟨c', e, hco⟩ := ha pos cv hc
    subst e
    rw [hn] at hco
    refine PySem.W.kla_makeFunctionHit (mg := X.mg) (c := c) (P := P) (ps := ps) (closure_ok hfree') I.ok.glob (I.mod.glob.keeps I.bk) hcode (TB.code.keeps I.bk) hP' ht hc bP fun ctv h' tk hx hsz => ?_
    have I1 : Inv X pins σ H { s with heap := h'.push (PySem.W.kla_obj "<lambda>" (X.env.qual ++ "<lambda>") params body scope (cloFrom X.env.cells scope.names []) ((X.mg "__name__").getD .none) c' ctv), toks := tk } := I.kept fun b o e => Heap.get?_push_of_some _ (hx b o e)
    exact done h'.objs.size c' ((X.mg "__name__").getD .none) ctv H _ I1 (Heap.get?_push_size _ rfl) hsz (I.hok.fresh hsz) (hit _ c' hco (I.hok.fresh hsz))
end
/-! ### a function by its address -/
structure CalC (P : Program) (w : World) (K : PySem.W.Frag) (mg : Str → Option Value) (base : Heap) (CX : CXT) (k : Nat) (f : Addr) (o : HO) (c : Addr) (u : HO) (ps : List Str) (sp : Sp) : Prop where
  len : ∀ vs H Q E, sp vs H Q E → vs.length = ps.length
  fn : ∀ (h : Heap) (H : Hp), HOk P w H h → H f = some o → PySem.W.FnAt f h
  run : ∀ (A : Around) (outer : List Env) (s : Shared) (H : Hp) (us : List Value) (vs : List V) (Q : VK) (E : XK), Room k A → Env0 P w K mg base A outer s H → H f = some o → H c = some u → Vals vs us → sp vs H Q E →
    codeAny (model P w) A (.call (.ref f) ⟨us, []⟩) (CR CX outer P w H s Q E) s
/-- what the captured cells hold, in the base -/
structure CellsIn (cl : List (Str × Addr)) (fr : List Str) (ws : List (Option V)) (h : Heap) : Prop where
  len : ws.length = fr.length
  all : ∀ y c, cl.lookup y = some c → ∃ v, h.IsCell c v
  inj : ∀ x y c, cl.lookup x = some c → cl.lookup y = some c → x = y
  has : ∀ (i : Nat) (y : Str), fr[i]? = some y → ∃ c, cl.lookup y = some c ∧ ∀ v, ws[i]? = some (some v) → ∃ u, L2.RelV v u ∧ h.IsCell c (some u)
section
variable {CX : CXT} {P : Program} {w : World} {K : PySem.W.Frag} {mg : Str → Option Value} {base : Heap} {N ps fr : List Str} {f c : Addr} {k j : Nat} {sp sp' : Sp} {o u : HO}
theorem CalC.mono (F : CalC P w K mg base CX j f o c u ps sp) (h : j ≤ k) : CalC P w K mg base CX k f o c u ps sp := ⟨F.len, F.fn, fun A outer s H us vs Q E hr => F.run A outer s H us vs Q E (hr.mono h)⟩
theorem CalC.imp (F : CalC P w K mg base CX k f o c u ps sp) (h : ∀ vs H Q E, sp' vs H Q E → sp vs H Q E) : CalC P w K mg base CX k f o c u ps sp' :=
  ⟨fun vs H Q E q => F.len _ _ _ _ (h _ _ _ _ q), F.fn, fun A outer s H us vs Q E hr e0 h1 h2 r q => F.run A outer s H us vs Q E hr e0 h1 h2 r (h _ _ _ _ q)⟩
theorem CellsIn.at_ {cl : List (Str × Addr)} {ws : List (Option V)} {A : Around} {outer : List Env} {s : Shared} {H : Hp} (C : CellsIn cl fr ws base) (e : Env0 P w K mg base A outer s H) : CellsAt cl fr ws s.heap H := by
  have up : ∀ {c : Addr} {v : Option Value}, base.IsCell c v → H c = none ∧ s.heap.IsCell c v := fun {c v} ⟨o, ho, hd⟩ => ⟨(e.bs c o ho).2, o, (e.bs c o ho).1, hd⟩
  refine ⟨C.len, fun y c h => ?_, C.inj, fun i y h => ?_⟩
  · obtain ⟨v, z⟩ := C.all y c h
    exact ⟨(up z).1, v, (up z).2⟩
  · obtain ⟨c, hc, hv⟩ := C.has i y h
    exact ⟨c, hc, fun v e => let ⟨u, r, z⟩ := hv v e; ⟨u, r, (up z).2⟩⟩
/-- the words of a lambda -/
abbrev NL (q : Str) (params : Arguments) (scope : Scope) (cl : List (Str × Addr)) (c : Addr) : NF := ⟨"<lambda>", q, params, [], scope, cl, c⟩
/-- THE RULE: a lambda by its body -/
theorem calC_lam {q : Str} {params : Arguments} {body : Expr} {scope : Scope} {cl : List (Str × Addr)} {ws : List (Option V)} (C : CellsIn cl fr ws base) (S : NScope N ps fr scope)
    (hb : ∀ (pm cv ctv : Value) (us : List Value), us.length = ps.length → bindArgs (PySem.W.kla_fn "<lambda>" q params body scope cl pm cv ctv) ⟨us, []⟩ = pure (ps.zip us)) (len : ∀ vs H Q E, sp vs H Q E → vs.length = ps.length)
    (hbody : ∀ (A : Around) (outer : List Env) (s : Shared) (H : Hp) (vs : List V) (Q : VK) (E : XK), Room k (A.deeper (envF (NL q params scope cl c) f s.heap.objs.size)) → sp vs H Q E →
      ∃ t, PE (ncx CX0 P w K mg base N (NL q params scope cl c) f A outer s H E0).nox body t ∧ t (startF N vs ws) H Q) :
    CalC P w K mg base CX0 (k + 1) f (LamO f q params body scope cl c) c (CodeO c q) ps sp := by
  refine ⟨len, fun h H hok e => ?_, fun A outer s H us vs Q E hr e0 hf hc r hsp => ?_⟩
  · obtain ⟨⟨pm, ctv, z⟩, _⟩ := (show ObjOk P w H h f (LamO f q params body scope cl c) from hok f _ e)
    exact ⟨_, _, _, _, z⟩
  have hl := len _ _ _ _ hsp
  have CA := C.at_ e0
  have lim : s.heap.NoLimit := e0.mod.nolimit.keeps fun b o e => (e0.bs b o e).1
  obtain ⟨⟨pm, ctv, hob⟩, _⟩ := (show ObjOk P w H s.heap f (LamO f q params body scope cl c) from e0.hok f _ hf)
  obtain ⟨⟨oc, vs', t, hoc, hdc, hvc⟩, _⟩ := (show ObjOk P w H s.heap c (CodeO c q) from e0.hok c _ hc)
  refine PySem.W.kla_callFunE hr.depth hob rfl S.co S.gen rfl ⟨c, oc, vs', t, rfl, hoc, hdc, hvc⟩ ?_
  rw [hb _ _ _ _ (by rw [← r.length]; exact hl)]
  refine wpAny_pure (wpAny_newFunctionEnv S.nocell (fun ⟨n, _⟩ hy => S.par n (List.of_mem_zip hy).1) (fun h₁ hns hsb => ⟨lim.fresh _ hsb, ?_⟩) S.kind)
  have kp : ∀ b o, s.heap.get? b = some o → h₁.get? b = some o := fun b o e => hsb.extBut b o (Nat.ne_of_lt (Heap.lt_size e)) (Heap.get?_push_of_some _ e)
  obtain ⟨t, ht, hq⟩ := hbody A outer s H vs Q E (hr.deeper _) hsp
  have I : Inv (ncx CX0 P w K mg base N (NL q params scope cl c) f A outer s H E0) [] (startF N vs ws) H { s with heap := h₁, toks := s.toks + (ps.zip us).length } := inv_startN S hr.hd e0 hl r CA hns kp
  show codeAny _ _ (.expr body (envF (NL q params scope cl c) f s.heap.objs.size)) _ _
  refine PySem.W.kla_codeExpr (wpAny_mono (ht.nox.run [] _ (startF N vs ws) H Q I hq) (fun v s' hs => ?_) fun e s' hs => hs)
  obtain ⟨w', H', J, rv, q⟩ := hs
  exact ⟨w', H', J.os, J.bare, J.base, J.hok, rv, q⟩
end
/-! ### the base, and the captured cells with it -/
def inCl (cl : List (Str × Addr)) (b : Addr) : Bool := cl.any fun p => decide (cl.lookup p.1 = some b)
def others (h base : Heap) (cl : List (Str × Addr)) : List Addr := (List.range h.objs.size).filter fun a => !(base.get? a).isSome && !inCl cl a
def baseC (h base : Heap) (cl : List (Str × Addr)) : Heap := PySem.W.hideAll h (others h base cl)
theorem inCl_of {cl : List (Str × Addr)} {b : Addr} {y : Str} (h : cl.lookup y = some b) : inCl cl b = true := List.any_eq_true.mpr ⟨(y, b), PySem.mem_of_lookup h, by simp [h]⟩
theorem of_inCl {cl : List (Str × Addr)} {b : Addr} (h : inCl cl b = true) : ∃ y, cl.lookup y = some b := by
  obtain ⟨p, _, e⟩ := List.any_eq_true.mp h
  exact ⟨p.1, by simpa using e⟩
theorem baseC_get {h base : Heap} {cl : List (Str × Addr)} {b : Addr} {o : Obj} (e : (baseC h base cl).get? b = some o) : h.get? b = some o ∧ ((∃ u, base.get? b = some u) ∨ ∃ y, cl.lookup y = some b) := by
  have e' := PySem.W.of_hideAll _ e
  refine ⟨e', ?_⟩
  cases z : (!(base.get? b).isSome && !inCl cl b) with
  | true =>
    have hm : b ∈ others h base cl := List.mem_filter.mpr ⟨List.mem_range.mpr (Heap.lt_size e'), z⟩
    have n : (baseC h base cl).get? b = none := PySem.W.hideAll_none _ hm
    rw [n] at e
    cases e
  | false =>
    rw [Bool.and_eq_false_iff] at z
    rcases z with z | z
    · left
      have : (base.get? b).isSome = true := by simpa using z
      exact Option.isSome_iff_exists.mp this
    · right
      exact of_inCl (by simpa using z)
theorem get_baseC {h base : Heap} {cl : List (Str × Addr)} {b : Addr} {o : Obj} (e : h.get? b = some o) (k : (∃ u, base.get? b = some u) ∨ ∃ y, cl.lookup y = some b) : (baseC h base cl).get? b = some o := by
  refine PySem.W.hideAll_get _ e fun hm => ?_
  have z := (List.mem_filter.mp hm).2
  rw [Bool.and_eq_true] at z
  rcases k with ⟨u, k⟩ | ⟨y, k⟩
  · rw [k] at z; simp at z
  · rw [inCl_of k] at z; simp at z
section
variable {X : Cx} {pins : List (Addr × Obj)} {σ : L2.St} {H : Hp} {s : Shared} {cl : List (Str × Addr)} {fr : List Str} {js : List Nat}
theorem Inv.envC (I : Inv X pins σ H s) (hc : ∀ y c, cl.lookup y = some c → X.env.cells.lookup y = some c) (hfn : ∀ y c, cl.lookup y = some c → X.fn y = true) : Env0 X.prog X.w X.K X.mg (baseC s.heap X.base cl) X.A X.stack s H := by
  have up : ∀ b o, X.base.get? b = some o → (baseC s.heap X.base cl).get? b = some o := fun b o e => get_baseC (I.bk b o e) (.inl ⟨o, e⟩)
  obtain ⟨m1, m2, ⟨mb, m3, m4⟩, m5⟩ := I.mod
  refine ⟨I.ok.frames, ⟨m1.keeps up, m2.keeps up, ⟨mb, m3.keeps up, m4⟩, m5.keeps up⟩, fun b o e => ?_, by unfold baseC; rw [PySem.W.hideAll_size]; exact Nat.le_refl _, ?_, I.stkFree, I.hok, I.bare⟩
  · obtain ⟨e1, k⟩ := baseC_get e
    refine ⟨e1, ?_⟩
    rcases k with ⟨u, k⟩ | ⟨y, k⟩
    · exact (I.bs b u k).2
    · exact I.freeC y b (hc y b k)
  · refine funFrames_none I.stack fun L hL => ?_
    cases z : (baseC s.heap X.base cl).get? L with
    | none => rfl
    | some o =>
      exfalso
      obtain ⟨_, k⟩ := baseC_get z
      rcases k with ⟨u, k⟩ | ⟨y, k⟩
      · have := (I.stack.mem hL).1
        rw [k] at this
        cases this
      · have hy := hc y L k
        rcases List.mem_cons.mp (I.stkSub L hL) with e | e
        · exact I.cne y L hy e
        · have h1 := I.ok.cab y L (hfn y L k) hy
          obtain ⟨_, o', ho', _⟩ := I.ok.funs.mem e
          exact Nat.lt_irrefl _ (Nat.lt_of_lt_of_le (Heap.lt_size ho') h1)
theorem cellsIn_of (I : Inv X pins σ H s) (c : Caps X cl fr js) : CellsIn cl fr (js.map (slotAt σ)) (baseC s.heap X.base cl) := by
  have C := cells_of I c
  have up : ∀ {y : Str} {c : Addr} {v : Option Value}, cl.lookup y = some c → s.heap.IsCell c v → (baseC s.heap X.base cl).IsCell c v := fun {y c v} h ⟨o, ho, hd⟩ => ⟨o, get_baseC ho (.inr ⟨y, h⟩), hd⟩
  refine ⟨C.len, fun y c h => ?_, C.inj, fun i y h => ?_⟩
  · obtain ⟨_, v, z⟩ := C.all y c h
    exact ⟨v, up h z⟩
  · obtain ⟨c, hc, hv⟩ := C.has i y h
    exact ⟨c, hc, fun v e => let ⟨u, r, z⟩ := hv v e; ⟨u, r, up hc z⟩⟩
/-- g(..), where the promise of g rests on what the captured cells hold -/
def tCallB (js : List Nat) (sp : List (Option V) → Sp) (t : TA) : TE := fun σ H Q => t σ H fun vs H1 => sp (js.map (slotAt σ)) vs H1 Q E0
theorem pe_callB {k : Nat} {f : Addr} {fd : FuncData} {ps : List Str} {sp : List (Option V) → Sp} {x : Str} {p pos : Pos} {e : Expr} {es : List Expr} {t : TA} (F : ∀ base ws, CellsIn cl fr ws base → FnOk X.prog X.w X.K X.mg base CX0 k f fd ps (sp ws)) (cp : X.Ok → Caps X cl fr js) (hfn : ∀ y c, cl.lookup y = some c → X.fn y = true) (hr : Room k X.A) (hg : Gl X x) (hm : X.mg x = some (.ref f)) (hk : PySem.W.keepIn X.K (.ref f) = true) (hb : Binds X.K fd ps [])
    (ha : PA X (e :: es) t) (hdb : (x == ("__debug__" : Str)) = false := by decide) (he : starEach (e :: es) X.env = (false, eval e X.env) :: starEach es X.env := by rfl) (hpl : (backTo pos (starEach es X.env)).any (·.1) = false := by rfl) :
    PE X (.Call (.Name x p) (e :: es) [] pos) (tCallB js sp t) := by
  refine ⟨fun pins s σ H Q I h => ?_⟩
  refine wpAny_Call_Name_kw (ld_glob I hg hm ?_ hdb)
  refine PySem.W.callWith_K (h₀ := X.base) I.ok.mod.kin hk (thn (ha.run pos pins s σ H _ I h) fun us s1 ⟨vs, H1, I1, r, q⟩ => ⟨I1.kIn, ?_⟩) he hpl
  have c1 := cp I1.ok
  have FF := F _ _ (cellsIn_of I1 c1)
  have hl : us.length = ps.length := by rw [← r.length]; exact FF.len _ _ _ _ q
  have hb2 := hb s1 us I1.kIn (by rw [List.append_nil]; exact hl)
  rw [List.append_nil] at hb2
  refine wpAny_call (codeAny_mono (FF.run X.A X.stack s1 H1 ⟨us, []⟩ us vs Q E0 hr (Inv.envC I1 c1.sub hfn) hb2 r q) fun r s' hq => ?_)
  cases r with
  | error e => exact pass0 pins σ H1 s1 e s' I1 hq
  | ok fl =>
    cases fl with
    | ret u => exact I1.after hq
    | next => exact False.elim hq
    | brk => exact False.elim hq
    | cont => exact False.elim hq
/-- x(..), x a name that holds such a function -/
def tCallC (i : Nat) (f : Addr) (o : HO) (c : Addr) (u : HO) (sp : Sp) (t : TA) : TE := fun σ H Q => σ[i]? = some (some (.ref f)) ∧ H f = some o ∧ t σ H fun vs H1 => H1 f = some o ∧ H1 c = some u ∧ sp vs H1 Q E0
theorem pe_callC {k i : Nat} {f c : Addr} {o u : HO} {ps : List Str} {sp : Sp} {x : Str} {p pos : Pos} {e : Expr} {es : List Expr} {t : TA} (F : CalC X.prog X.w X.K X.mg X.base CX0 k f o c u ps sp) (hr : Room k X.A) (hN : X.N[i]? = some x) (hv : Vis X.env.scope x) (ha : PA X (e :: es) t)
    (hdb : (x == ("__debug__" : Str)) = false := by decide) (hcd : (x == ("__classdict__" : Str)) = false := by decide)
    (he : starEach (e :: es) X.env = (false, eval e X.env) :: starEach es X.env := by rfl) (hpl : (backTo pos (starEach es X.env)).any (·.1) = false := by rfl) : PE X (.Call (.Name x p) (e :: es) [] pos) (tCallC i f o c u sp t) := by
  refine ⟨fun pins s σ H Q I h => ?_⟩
  obtain ⟨hs, hf, ht⟩ := h
  refine wpAny_Call_Name_kw (thn ((pe_var (pos := p) hN hv hdb hcd).run pins s σ H (fun v H1 => v = .ref f ∧ H1 = H) I ⟨.ref f, hs, rfl, rfl⟩) fun w' s1 ⟨v, H1, I1, r1, q1⟩ => ?_)
  obtain ⟨rfl, rfl⟩ := q1
  cases r1
  refine PySem.W.callWith_F (first := []) (F.fn _ _ I1.hok hf) (thn (ha.run pos pins s1 σ _ _ I1 ht) fun us s2 ⟨vs, H2, I2, r, h1, h2, q⟩ => ⟨F.fn _ _ I2.hok h1, ?_⟩) he hpl
  show wpAny _ _ (call (.ref f) us) _ _ _
  refine wpAny_call (codeAny_mono (F.run X.A X.stack s2 H2 us vs Q E0 hr I2.env0 h1 h2 r q) fun r s' hq => ?_)
  cases r with
  | error e => exact pass0 pins σ H2 s2 e s' I2 hq
  | ok fl =>
    cases fl with
    | ret u => exact I2.after hq
    | next => exact False.elim hq
    | brk => exact False.elim hq
    | cont => exact False.elim hq
end
end XC

set_option Elab.async false
set_option linter.all false
set_option maxRecDepth 100000
set_option maxHeartbeats 2000000
namespace Y
open PySem PySem.Spec PyProof.Rows L2 StX XC NdefX
variable {w : World} [Tb w]
/-! ### lambdas that capture names -/
section
variable {K : PySem.W.Frag} {X : Cx} {E : XK}
variable {Φ : Phi} {B : Hp} {α : List Addr} {H : Hp} {σ : L2.St} {ρ : Env} {ω : Sto} {T : List (V × S)}
/-- several objects that stay -/
theorem StB.pureTo (s : StB Φ K B α H σ ρ ω T) {B' H' : Hp} (f : Frame ⟨B, H, []⟩ B' H' []) (t : TbOk w B' H' []) : StB Φ K B' α H' σ ρ ω T := s.pureStep f t
def dLam (o : Addr → Addr → HO) (u : Addr → HO) : TD := fun _ ω q _ => ∀ f c, q (.d (.clo f (o f c) c (u c) [] [])) ω
theorem y_lam {P c : Addr} {nm : Nat → Nat → Str} {params : Arguments} {body : Expr} {scope : Scope} {pos : Pos} {cl : List (Str × Addr)} (TB : LamX.TabB X.base X.mg c P) (hcode : X.env.code = .ref c) (hT : (P, nm) ∈ Tb.T (w := w)) (hu : ∀ p ∈ Tb.T (w := w), p.1 = P → p.2 = nm) (hex : X.ex = [])
    (hn : nm pos.line pos.col = X.env.qual ++ "<lambda>") (hdef : defaultsOf params X.env = ([], [])) (hfree : ∀ y ∈ scope.names, y.2 = .free → X.env.scope.names.lookup y.1 = some .cell ∨ X.env.scope.names.lookup y.1 = some .free) (hcl : cloFrom X.env.cells scope.names [] = cl) :
    PD X K E (.Lambda params body scope pos) (tLamP P nm (X.env.qual ++ "<lambda>") params body scope cl) (dLam (fun f c => LamO f (X.env.qual ++ "<lambda>") params body scope cl c) fun c => LamX.CodeO c (X.env.qual ++ "<lambda>")) := by
  refine ⟨pe_lamP TB hcode hex hn hdef hfree hcl, fun Φ H σ ρ ω T q Q x ⟨B, α, sb⟩ hx k h => ?_⟩
  obtain ⟨nP, hBP, ps, hP, ht, ha⟩ := sb.wd.tb _ hT
  have g := sb.fr.bh
  refine ⟨B, g, ⟨ps, hP, ht, ha⟩, fun f c' hc hf => ?_, fun f c' ps' hc hf hfc ht' ha' => ?_⟩
  · obtain ⟨fr, wd⟩ := Frame.froze g sb.wd hf (LamO f (X.env.qual ++ "<lambda>") params body scope cl c')
    exact k _ _ _ _ (h f c') ((sb.step fr wd).pushD (.clo upd_same (fr.bb _ _ hc) .nil)).st
  · -- the table is written; the code object and the function are new
    have hBc : B c' = none := g.free hc
    have hBf : B f = none := g.free hf
    have hPc : P ≠ c' := ne_of_none hP hc
    have hPf : P ≠ f := ne_of_none hP hf
    generalize ho : LamO f (X.env.qual ++ "<lambda>") params body scope cl c' = o
    generalize hco : LamX.CodeO c' (X.env.qual ++ "<lambda>") = u at ha' ⊢
    have hB' : ∀ b ob, B b = some ob → b ≠ P ∧ b ≠ c' ∧ b ≠ f := fun b ob e => ⟨(fun z => by rw [z] at e; rw [show B P = none from hBP] at e; cases e), ne_of_none e hBc, ne_of_none e hBf⟩
    have gB : Same B (upd (upd B c' u) f o) := fun b ob e => by rw [upd_ne (hB' b ob e).2.2, upd_ne (hB' b ob e).2.1]; exact e
    have fr : Frame ⟨B, H, []⟩ (upd (upd B c' u) f o) (upd (upd (upd H P (.tbl ps')) c' u) f o) [] := by
      refine ⟨gB, fun b ob e => ?_, fun b ob _ e => ?_, fun a ob e => ?_, [], rfl, by simp⟩
      · by_cases z1 : b = f
        · rw [z1, upd_same] at e ⊢; exact e
        · rw [upd_ne z1] at e ⊢
          by_cases z2 : b = c'
          · rw [z2, upd_same] at e ⊢; exact e
          · rw [upd_ne z2] at e ⊢
            rw [upd_ne (hB' b ob e).1]
            exact g b ob e
      · have e : H b = some ob := e
        rw [upd_ne (ne_of_none e hf), upd_ne (ne_of_none e hc)]
        by_cases z : b = P
        · subst z
          rw [hP] at e
          cases e
          exact .inr ⟨⟨ps, rfl⟩, ps', upd_same⟩
        · rw [upd_ne z]; exact .inl e
      · by_cases z1 : a = f
        · rw [z1]; exact .inr (.inl hf)
        · rw [upd_ne z1] at e
          by_cases z2 : a = c'
          · rw [z2]; exact .inr (.inl hc)
          · rw [upd_ne z2] at e; exact .inl ⟨ob, e⟩
    have tb : TbOk w (upd (upd B c' u) f o) (upd (upd (upd H P (.tbl ps')) c' u) f o) [] := fun p hp => by
      obtain ⟨_, h1, ps0, h2, h3, h4⟩ := sb.wd.tb p hp
      have n1 : p.1 ≠ f := ne_of_none h2 hf
      have n2 : p.1 ≠ c' := ne_of_none h2 hc
      refine ⟨by simp, by rw [upd_ne n1, upd_ne n2]; exact h1, ?_⟩
      by_cases z : p.1 = P
      · have hnm := hu p hp z
        refine ⟨ps', by rw [upd_ne n1, upd_ne n2, z, upd_same], ht', fun p' cv hcv => ?_⟩
        rcases ha' p' cv hcv with ⟨c0, e1, e2⟩ | ⟨e1, e2⟩
        · exact ⟨c0, e1, by rw [hnm]; exact gB _ _ e2⟩
        · refine ⟨c', e1, ?_⟩
          rw [hnm, e2, hco, upd_ne (Ne.symm hfc), upd_same]
      · refine ⟨ps0, by rw [upd_ne n1, upd_ne n2, upd_ne z]; exact h2, h3, fun p' cv hcv => ?_⟩
        obtain ⟨c0, e1, e2⟩ := h4 p' cv hcv
        exact ⟨c0, e1, gB _ _ e2⟩
    refine k _ _ _ _ (h f c') ((sb.pureStep fr tb).pushD (.clo ?_ ?_ .nil)).st
    · rw [upd_same]
      exact congrArg some ho.symm
    · rw [upd_ne (Ne.symm hfc), upd_same]
      exact congrArg some hco.symm
/-! ### calls that rest on captured names -/
/-- a function got as an argument bears what it captured -/
def upg (ws : List V) (wd : List D) : D → D
  | .clo f o c u _ _ => .clo f o c u ws wd
  | d => d
theorem r_upg {v : V} {d : D} {ws : List V} {wd : List D} (h : Rs K B ws wd) (r : R K B v d) : R K B v (upg ws wd d) := by
  cases r with
  | clo h1 h2 _ => exact .clo h1 h2 h
  | _ => first | exact .non | exact .bl _ | exact .int _ | exact .str _ | exact .fn _ | (constructor <;> assumption)
theorem rs_upg {ws : List V} {wd : List D} (h : Rs K B ws wd) : ∀ {vs : List V} {ds : List D}, Rs K B vs ds → Rs K B vs (ds.map (upg ws wd))
  | _, _, .nil => .nil
  | _, _, .cons r t => .cons (r_upg h r) (rs_upg h t)
def spB (K : PySem.W.Frag) (C : List V → List D → CP) : List (Option V) → Sp := fun ow vs H Q E => ∃ ws wd B ds q, ow = ws.map some ∧ Same B H ∧ TbOk w B H [] ∧ Rs K B ws wd ∧ Rs K B vs ds ∧ C ws wd ds q ∧ (∀ d v H' B', q d → Frame ⟨B, H, []⟩ B' H' [] → TbOk w B' H' [] → R K B' v d → Q v H')
def slotsD (ρ : Env) : List Nat → Option (List D)
  | [] => some []
  | j :: js => match ρ[j]?, slotsD ρ js with
    | some (some (.d d)), some ds => some (d :: ds)
    | _, _ => none
def dCallB (C : List V → List D → CP) (js : List Nat) (u : TAD) : TD := fun ρ ω q x => u ρ ω (fun ss ω1 => allDk ss fun ds => match slotsD ρ js with | some wd => ∀ ws, C ws wd (ds.map (upg ws wd)) (fun d => q (.d d) ω1) | none => False) x
theorem slots_d (s : StB Φ K B α H σ ρ ω T) : ∀ {js : List Nat} {wd : List D}, slotsD ρ js = some wd → ∃ ws, js.map (slotAt σ) = ws.map some ∧ Rs K B ws wd
  | [], _, h => by cases h; exact ⟨[], rfl, .nil⟩
  | j :: js, _, h => by
    unfold slotsD at h
    split at h
    · rename_i d ds e1 e2
      cases h
      obtain ⟨v, e3, r⟩ := s.sl.2 j _ e1
      obtain ⟨ws, e4, t⟩ := slots_d s e2
      exact ⟨v :: ws, by rw [List.map_cons, List.map_cons, e4, slotAt_of e3], .cons r t⟩
    · cases h
theorem ref_callB {js : List Nat} {C : List V → List D → CP} {ta : TA} {u : TAD} (h0 : RefA K E ta u) : Ref K E (tCallB js (spB (w := w) K C) ta) (dCallB C js u) := fun Φ H σ ρ ω T q Q x s hx k h => h0 Φ H σ ρ ω T _ _ x s hx (fun ss ω1 vs H1 h l ⟨B, α, sb⟩ => by
  unfold allDk at h
  cases e : allD ss with
  | none => simp only [e] at h
  | some ds =>
    simp only [e] at h
    cases e2 : slotsD ρ js with
    | none => simp only [e2] at h
    | some wd =>
      simp only [e2] at h
      obtain ⟨ws, ew, rw'⟩ := slots_d sb e2
      exact ⟨ws, wd, B, _, _, ew, sb.fr.bh, sb.wd.tb.nil, rw', rs_upg rw' (rs_all (St.pair sb l) e), h ws, fun d v H' B' hq f t r => k _ _ _ _ hq (drop_mid ((sb.pureStep f t).pushD r).st)⟩) h
theorem y_callB {k : Nat} {f : Addr} {fd : FuncData} {ps : List Str} {C : List V → List D → CP} {x : Str} {p pos : Pos} {e : Expr} {es : List Expr} {u : TAD} {cl : List (Str × Addr)} {fr : List Str} {js : List Nat}
    (F : ∀ base ow, CellsIn cl fr ow base → FnOk X.prog X.w K X.mg base CX0 k f fd ps (spB (w := w) K C ow)) (cp : X.Ok → Caps X cl fr js) (hfn : ∀ y c, cl.lookup y = some c → X.fn y = true) (hr : Room k X.A) (hm : X.mg x = some (.ref f)) (hk : PySem.W.keepIn K (.ref f) = true) (hb : Binds K fd ps []) (ha : PAD X K E (e :: es) ht u) (hg : Gl X x := by rfl) (hdb : (x == ("__debug__" : Str)) = false := by decide)
    (he : starEach (e :: es) X.env = (false, eval e X.env) :: starEach es X.env := by rfl) (hpl : (backTo pos (starEach es X.env)).any (·.1) = false := by rfl) (hK : X.K = K := by rfl) : PD X K E (.Call (.Name x p) (e :: es) [] pos) (tCallB js (spB (w := w) K C) ht) (dCallB C js u) := by
  subst hK
  exact ⟨pe_callB F cp hfn hr hg hm hk hb ha.p hdb he hpl, ref_callB ha.r⟩
/-! ### such a function called -/
def spW (K : PySem.W.Frag) (ws : List V) (wd : List D) (C : CP) : Sp := fun vs H Q E => ∃ B ds q, Same B H ∧ TbOk w B H [] ∧ Rs K B ws wd ∧ Rs K B vs ds ∧ C ds q ∧ (∀ d v H' B', q d → Frame ⟨B, H, []⟩ B' H' [] → TbOk w B' H' [] → R K B' v d → Q v H')
def dLocC (i : Nat) (f : Addr) (o : HO) (c : Addr) (u : HO) (ws : List V) (wd : List D) (t : TD) : TD := fun ρ ω q x => ρ[i]? = some (some (.d (.clo f o c u ws wd))) ∧ t ρ ω q x
theorem y_locC {k i : Nat} {f c : Addr} {o u' : HO} {ws : List V} {wd : List D} {ps : List Str} {C : CP} {x : Str} {p pos : Pos} {e : Expr} {es : List Expr} {u : TAD} (F : CalC X.prog X.w K X.mg X.base CX0 k f o c u' ps (spW (w := w) K ws wd C)) (hr : Room k X.A) (ha : PAD X K E (e :: es) ht u)
    (hN : X.N[i]? = some x := by rfl) (hv : Vis X.env.scope x := by first | exact Or.inl rfl | exact Or.inr (Or.inl rfl) | exact Or.inr (Or.inr rfl)) (hdb : (x == ("__debug__" : Str)) = false := by decide) (hcd : (x == ("__classdict__" : Str)) = false := by decide)
    (he : starEach (e :: es) X.env = (false, eval e X.env) :: starEach es X.env := by rfl) (hpl : (backTo pos (starEach es X.env)).any (·.1) = false := by rfl) (hK : X.K = K := by rfl) : PD X K E (.Call (.Name x p) (e :: es) [] pos) (tCallC i f o c u' (spW (w := w) K ws wd C) ht) (dLocC i f o c u' ws wd (dCall C u)) := by
  subst hK
  refine ⟨pe_callC F hr hN hv ha.p hdb hcd he hpl, fun Φ H σ ρ ω T q Q x s hx k h => ?_⟩
  obtain ⟨hs, h⟩ := h
  obtain ⟨B0, α0, sb0⟩ := s
  obtain ⟨v, ev, rv⟩ := sb0.sl.2 i _ hs
  obtain ⟨rfl, hf, hc, hw⟩ := r_clo rv
  refine ⟨ev, sb0.fr.bh _ _ hf, ha.r Φ H σ ρ ω ((.ref f, .d (.clo f o c u' ws wd)) :: T) _ _ x (sb0.pushD (.clo hf hc hw)).st hx (fun ss ω1 vs H1 h l ⟨B, α, sb⟩ => ?_) h⟩
  unfold allDk at h
  cases e : allD ss with
  | none => simp only [e] at h
  | some ds =>
    simp only [e] at h
    obtain ⟨_, h1, h2, h3⟩ := r_clo (show R X.K B (.ref f) (.clo f o c u' ws wd) from sb.tm (.ref f, .d (.clo f o c u' ws wd)) (by simp))
    exact ⟨sb.fr.bh _ _ h1, sb.fr.bh _ _ h2, B, ds, _, sb.fr.bh, sb.wd.tb.nil, h3, rs_all (St.pair sb l) e, h, fun d v H' B' hq f t r => k _ _ _ _ hq (((sb.pureStep f t).pushD r).st.sub fun p hp => by
      rcases List.mem_cons.mp hp with rfl | hp
      · simp
      · simp [hp])⟩
/-! ### a lambda by its body -/
theorem ref_end {te : TE} {td : TD} {B : Hp} {q : D → Prop} {Q : VK} (r : Ref K E0 te td) (hq : ∀ d v H' B', q d → Frame ⟨B, H, []⟩ B' H' [] → TbOk w B' H' [] → R K B' v d → Q v H') (st : StB ⟨B, H, []⟩ K B [] H σ ρ [] []) (h : td ρ [] (rtP q) (fun _ => False)) : te σ H Q :=
  r ⟨B, H, []⟩ H σ ρ [] [] _ _ _ st.st .never (fun s ω' v H' h st => by
    obtain ⟨B', α', st⟩ := st
    unfold rtP at h
    split at h
    · exact hq _ _ _ _ h st.fr.nil st.wd.tb.nil (st.tm (v, .d _) List.mem_cons_self)
    · split at h
      · rename_i c ec
        split at h
        · rename_i d ed
          obtain ⟨a, ha, ev⟩ := st.tm _ List.mem_cons_self
          have ev : v = .ref a := ev
          subst ev
          obtain ⟨B2, f2, w2, r2⟩ := Frame.frz st.fr.bh st.wd ha ec ed
          exact hq _ _ _ _ h (st.fr.trans f2).nil w2.tb.nil r2
        · exact h.elim
      · exact h.elim) h
def startW (N : List Str) (ds wd : List D) : Env := ds.map (fun d => some (.d d)) ++ (wd.map (fun d => some (.d d)) ++ List.replicate (N.length - ds.length - wd.length) none)
theorem slots_W {N : List Str} {vs ws : List V} {ds wd : List D} (r : Rs K B vs ds) (t : Rs K B ws wd) : Slots K [] B (startF N vs (ws.map some)) (startW N ds wd) := by
  have l1 := r.len
  have l2 := t.len
  refine ⟨by simp [startF, startW, l1, l2], fun i s e => ?_⟩
  unfold startW at e
  unfold startF
  have l4 : (vs.map some).length = ds.length := by rw [List.length_map, l1]
  have l3 : (ws.map some).length = wd.length := by rw [List.length_map, l2]
  by_cases h1 : i < ds.length
  · rw [List.getElem?_append_left (by simpa using h1), List.getElem?_map] at e
    rw [List.getElem?_append_left (by rw [List.length_map, l1]; exact h1), List.getElem?_map]
    cases ed : ds[i]? with
    | none => rw [ed] at e; cases e
    | some d =>
      rw [ed] at e
      cases e
      obtain ⟨v, ev, rv⟩ := r.get ed
      exact ⟨v, by rw [ev]; rfl, rv⟩
  · rw [List.getElem?_append_right (by simpa using h1), List.length_map] at e
    rw [List.getElem?_append_right (by rw [l4]; omega), l4]
    by_cases h2 : i - ds.length < wd.length
    · rw [List.getElem?_append_left (by simpa using h2), List.getElem?_map] at e
      rw [List.getElem?_append_left (by rw [l3]; exact h2), List.getElem?_map]
      cases ed : wd[i - ds.length]? with
      | none => rw [ed] at e; cases e
      | some d =>
        rw [ed] at e
        cases e
        obtain ⟨v, ev, rv⟩ := t.get ed
        exact ⟨v, by rw [ev]; rfl, rv⟩
    · rw [List.getElem?_append_right (by simpa using h2), List.getElem?_replicate] at e
      split at e <;> cases e
theorem calC_W {P : Program} {mg : Str → Option Value} {base : Heap} {k : Nat} {f c : Addr} {q : Str} {params : Arguments} {body : Expr} {scope : Scope} {cl : List (Str × Addr)} {N ps fr : List Str} {ws : List V} {wd : List D} {C : CP} (Ci : CellsIn cl fr (ws.map some) base) (S : NScope N ps fr scope)
    (hb : ∀ (pm cv ctv : Value) (us : List Value), us.length = ps.length → bindArgs (PySem.W.kla_fn "<lambda>" q params body scope cl pm cv ctv) ⟨us, []⟩ = pure (ps.zip us)) (len : ∀ ds q, C ds q → ds.length = ps.length)
    (hbody : ∀ (A : Around) (outer : List PySem.Env) (s : Shared) (H : Hp) (ds : List D) (q' : D → Prop), Room k (A.deeper (envF (NL q params scope cl c) f s.heap.objs.size)) → C ds q' →
      ∃ te td, PD (ncx CX0 P w K mg base N (NL q params scope cl c) f A outer s H E0).nox K E0 body te td ∧ td (startW N ds wd) [] (rtP q') (fun _ => False)) :
    CalC P w K mg base CX0 (k + 1) f (LamO f q params body scope cl c) c (LamX.CodeO c q) ps (spW (w := w) K ws wd C) := by
  refine calC_lam Ci S hb (fun vs H Q E h => ?_) (fun A outer s H vs Q E hr h => ?_)
  · obtain ⟨B, ds, q', _, _, _, r, hc, _⟩ := h
    rw [r.len]
    exact len _ _ hc
  · obtain ⟨B, ds, q', g, tb, rw', r, hc, hq⟩ := h
    obtain ⟨te, td, p, ht⟩ := hbody A outer s H ds q' hr hc
    have sb : StB ⟨B, H, []⟩ K B [] H (startF N vs (ws.map some)) (startW N ds wd) [] [] := ⟨Frame.refl g, ⟨tb, List.nodup_nil, rfl, by simp, fun j a c e => by simp at e⟩, slots_W r rw', by simp⟩
    exact ⟨te, p.p, ref_end p.r hq sb ht⟩
end
end Y

set_option Elab.async false
set_option linter.all false
set_option maxRecDepth 100000
set_option maxHeartbeats 1000000
/-! list(zip(t, xs)), t a tuple, xs a list -/
namespace XZ2
open PySem PySem.Spec PyProof.Rows RZ
abbrev IsZ (h : Heap) (z TI TO : Addr) (f0 : Value) (b : Bool) : Prop :=
  h.get? z = some { cls := .type "zip", dict := none, data := .fields #[f0, .bool b, .bool false, .ref TI, .ref TO], slots := #[] }
inductive Kd where | t | l
def IsIt (k : Kd) (h : Heap) (a l : Addr) (i : Nat) : Prop := match k with | .t => h.IsTupleIter a l i | .l => h.IsListIter a l i
def IsSq (k : Kd) (h : Heap) (a : Addr) (xs : Array Value) : Prop := match k with | .t => h.IsTuple a xs | .l => h.IsList a xs
def Kd.it : Kd → String | .t => "tuple_iterator" | .l => "list_iterator"
theorem IsIt.extBut {k : Kd} {h h' : Heap} {a b l i} (x : IsIt k h a l i) (hs : Heap.ExtBut b h h') (hab : a ≠ b) : IsIt k h' a l i := by
  cases k
  · exact Heap.IsTupleIter.extBut x hs hab
  · exact Heap.IsListIter.extBut x hs hab
theorem IsSq.extBut {k : Kd} {h h' : Heap} {a b items} (x : IsSq k h a items) (hs : Heap.ExtBut b h h') (hab : a ≠ b) : IsSq k h' a items := by
  cases k
  · exact Heap.IsTuple.extBut x hs hab
  · exact Heap.IsList.extBut x hs hab
theorem IsIt.at {k : Kd} {h h' : Heap} {a l i} (x : IsIt k h a l i) (e : ∀ o, h.get? a = some o → h'.get? a = some o) : IsIt k h' a l i := by
  cases k
  · exact Heap.IsTupleIter.at x e
  · exact Heap.IsListIter.at x e
theorem IsSq.at {k : Kd} {h h' : Heap} {a xs} (x : IsSq k h a xs) (e : ∀ o, h.get? a = some o → h'.get? a = some o) : IsSq k h' a xs := by
  cases k
  · exact Heap.IsTuple.at x e
  · exact Heap.IsList.at x e
theorem IsIt.ex {k : Kd} {h : Heap} {a l i} (x : IsIt k h a l i) : ∃ o, h.get? a = some o := by
  cases k
  · obtain ⟨o, e, _⟩ := x; exact ⟨o, e⟩
  · obtain ⟨o, e, _⟩ := x; exact ⟨o, e⟩
theorem IsIt.data {k : Kd} {h : Heap} {a l i} (x : IsIt k h a l i) : ∃ o, h.get? a = some o ∧ ∀ v c, o.data ≠ .seq v c := by
  cases k
  · obtain ⟨o, e, _, d⟩ := x; exact ⟨o, e, fun v c q => by rw [d] at q; cases q⟩
  · obtain ⟨o, e, _, d⟩ := x; exact ⟨o, e, fun v c q => by rw [d] at q; cases q⟩
theorem IsSq.ex {k : Kd} {h : Heap} {a xs} (x : IsSq k h a xs) : ∃ o, h.get? a = some o := by
  cases k
  · obtain ⟨o, e, _⟩ := x; exact ⟨o, e⟩
  · obtain ⟨o, e, _⟩ := x; exact ⟨o, e⟩
section
variable {prog : Program} {w : World} {A : Around} {E : Value → Shared → Prop} {s : Shared} {kd : Kd}
theorem it_item {it l : Addr} {i : Nat} {items} {x : Value} {Q : Value → Shared → Prop} (hit : IsIt kd s.heap it l i)
    (hl : IsSq kd s.heap l items) (hx : items[i]? = some x)
    (hQ : ∀ h', IsIt kd h' it l (i + 1) → Heap.SameBut it s.heap h' → Q x { s with heap := h' }) :
    wpAny (model prog w) A (Builtin.SmallTypes.nextOf (.ref it)) Q E s := by
  cases kd
  · exact nextOf_tuple_item hit hl hx hQ
  · exact wpAny_nextOf_list_item hit hl hx hQ
theorem it_end {it l : Addr} {i : Nat} {items} {Q : Value → Shared → Prop} (hh : A.handled = none)
    (hit : IsIt kd s.heap it l i) (hl : IsSq kd s.heap l items) (hx : items[i]? = none)
    (hE : ∀ h' e, Heap.ExtBut it s.heap h' → (∃ o, h'.get? e = some o ∧ o.cls = .type "StopIteration") → E (.ref e) { s with heap := h' }) :
    wpAny (model prog w) A (Builtin.SmallTypes.nextOf (.ref it)) Q E s := by
  cases kd
  · exact nextOf_tuple_end hh hit hl hx hE
  · exact wpAny_nextOf_list_end hh hit hl hx hE
end
section
variable {kd1 kd2 : Kd} {prog : Program} {w : World} {A : Around} {E : Value → Shared → Prop} {s : Shared}
/-- the first one: the zip's own tuple is free -/
theorem next_free {z TI TO i1 i2 l1 l2 : Addr} {k1 k2 : Nat} {xs ys : Array Value} {x y a b : Value} {Q : Value → Shared → Prop} (D : ZipApart z TI TO i1 i2 l1 l2)
    (hz : IsZ s.heap z TI TO .none false) (hTI : IsPair s.heap TI (.ref i1) (.ref i2)) (hTO : IsPair s.heap TO a b)
    (h1 : IsIt kd1 s.heap i1 l1 k1) (h2 : IsIt kd2 s.heap i2 l2 k2) (hl1 : IsSq kd1 s.heap l1 xs) (hl2 : IsSq kd2 s.heap l2 ys) (hx : xs[k1]? = some x) (hy : ys[k2]? = some y)
    (hQ : ∀ h', IsZ h' z TI TO (rawInt s.heap.objs.size) false → IsPair h' TO x y → IsIt kd1 h' i1 l1 (k1 + 1) → IsIt kd2 h' i2 l2 (k2 + 1) → IsPair h' s.heap.objs.size x y →
      (∀ c o, c ≠ z → c ≠ TO → c ≠ i1 → c ≠ i2 → s.heap.get? c = some o → h'.get? c = some o) → Q (.ref s.heap.objs.size) { s with heap := h' }) :
    wpAny (model prog w) A (Builtin.«zip.__next__» ⟨[.ref z], []⟩) (fun fin s' => ∃ v, fin = .done (.ret v) ∧ Q v s') E s := by
  show wpAny _ _ (field (.ref z) 2 >>= _) _ _ _
  refine wpAny_bind (wpAny_field hz rfl (x := .bool false) rfl ?_)
  show wpAny _ _ (field (.ref z) 3 >>= _) _ _ _
  refine wpAny_bind (wpAny_field hz rfl (x := .ref TI) rfl ?_)
  refine wpAny_bind (wpAny_seqItems hTI rfl ?_)
  show wpAny _ _ (Builtin.SmallTypes.ownedTupleIsFree (.ref z) >>= _) _ _ _
  refine wpAny_bind ?_
  unfold Builtin.SmallTypes.ownedTupleIsFree
  refine wpAny_bind (wpAny_field hz rfl (x := .none) rfl (wpAny_pure ?_))
  simp only [if_true]
  refine wpAny_bind (wpAny_rule ?_)
  refine wpAny_bind (wpAny_field hz rfl (x := .ref TO) rfl ?_)
  refine wpAny_bind (wpAny_setField_rec hz (by simp) fun h₁ hz₁ hs₁ => ?_)
  replace hz₁ : IsZ h₁ z TI TO .ellipsis false := hz₁
  refine wpAny_bind ?_
  simp only [List.zipIdx_cons, List.zipIdx_nil, List.forIn_cons, List.forIn_nil]
  refine wpAny_bind (wpAny_bind (wpAny_onRaise ?_))
  show wpAny _ _ (Builtin.SmallTypes.nextOf (.ref i1) >>= _) _ _ _
  refine wpAny_bind (it_item (h1.extBut hs₁.extBut D.i1z) (hl1.extBut hs₁.extBut D.l1z) hx fun h₂ h1₂ hs₂ => wpAny_pure ?_)
  have hTO₂ : IsPair h₂ TO a b := hs₂.extBut _ _ D.TOi1 (hs₁.extBut _ _ D.TOz hTO)
  refine wpAny_bind (wpAny_seqItems hTO₂ rfl ?_)
  refine wpAny_bind (wpAny_updateSeq_pair hTO₂ fun h₃ hTO₃ hs₃ => ?_)
  replace hTO₃ : IsPair h₃ TO x b := hTO₃
  refine wpAny_bind (wpAny_letGo (wpAny_pure ?_))
  refine wpAny_bind (wpAny_bind (wpAny_onRaise ?_))
  show wpAny _ _ (Builtin.SmallTypes.nextOf (.ref i2) >>= _) _ _ _
  refine wpAny_bind (it_item (((h2.extBut hs₁.extBut D.i2z).extBut hs₂.extBut D.i12.symm).extBut hs₃.extBut D.TOi2.symm)
    (((hl2.extBut hs₁.extBut D.l2z).extBut hs₂.extBut D.l2i1).extBut hs₃.extBut D.l2TO) hy fun h₄ h2₄ hs₄ => wpAny_pure ?_)
  have hTO₄ : IsPair h₄ TO x b := hs₄.extBut _ _ D.TOi2 hTO₃
  refine wpAny_bind (wpAny_seqItems hTO₄ rfl ?_)
  refine wpAny_bind (wpAny_updateSeq_pair hTO₄ fun h₅ hTO₅ hs₅ => ?_)
  replace hTO₅ : IsPair h₅ TO x y := hTO₅
  refine wpAny_bind (wpAny_letGo (wpAny_pure (wpAny_pure ?_)))
  refine wpAny_bind (wpAny_seqItems hTO₅ rfl ?_)
  refine wpAny_bind (wpAny_newTuple ?_)
  have hsz : h₅.objs.size = s.heap.objs.size := by rw [hs₅.1, hs₄.1, hs₃.1, hs₂.1, hs₁.1]
  have hz₅ : IsZ h₅ z TI TO .ellipsis false := hs₅.extBut _ _ D.TOz.symm (hs₄.extBut _ _ D.i2z.symm (hs₃.extBut _ _ D.TOz.symm (hs₂.extBut _ _ D.i1z.symm hz₁)))
  have hk₅ : ∀ c o, c ≠ z → c ≠ TO → c ≠ i1 → c ≠ i2 → s.heap.get? c = some o → h₅.get? c = some o := fun c o c1 c2 c3 c4 e =>
    hs₅.extBut _ _ c2 (hs₄.extBut _ _ c4 (hs₃.extBut _ _ c2 (hs₂.extBut _ _ c3 (hs₁.extBut _ _ c1 e))))
  have h1₅ : IsIt kd1 h₅ i1 l1 (k1 + 1) := ((h1₂.extBut hs₃.extBut D.TOi1.symm).extBut hs₄.extBut D.i12).extBut hs₅.extBut D.TOi1.symm
  have h2₅ : IsIt kd2 h₅ i2 l2 (k2 + 1) := h2₄.extBut hs₅.extBut D.TOi2.symm
  have hzlt : z < h₅.objs.size := Heap.lt_size hz₅
  show wpAny _ _ (Builtin.SmallTypes.ownedTupleHandOut (.ref z) (.ref h₅.objs.size) >>= _) _ _ _
  refine wpAny_bind ?_
  unfold Builtin.SmallTypes.ownedTupleHandOut
  have hz₆ : IsZ (h₅.push { cls := .type "tuple", data := .seq #[x, y] }) z TI TO .ellipsis false := Heap.get?_push_of_some _ hz₅
  refine wpAny_bind (wpAny_setField_rec hz₆ (by simp) fun h₇ hz₇ hs₇ => ?_)
  replace hz₇ : IsZ h₇ z TI TO (rawInt h₅.objs.size) false := hz₇
  refine wpAny_setField_rec hz₇ (by simp) fun h₈ hz₈ hs₈ => ?_
  replace hz₈ : IsZ h₈ z TI TO (rawInt h₅.objs.size) false := hz₈
  have up : ∀ c o, c ≠ z → h₅.get? c = some o → h₈.get? c = some o := fun c o c1 e => hs₈.extBut _ _ c1 (hs₇.extBut _ _ c1 (Heap.get?_push_of_some _ e))
  have hT₈ : IsPair h₈ h₅.objs.size x y := hs₈.extBut _ _ (Nat.ne_of_gt hzlt) (hs₇.extBut _ _ (Nat.ne_of_gt hzlt) (Heap.get?_push_size _ rfl))
  rw [hsz] at hz₈ hT₈
  refine wpAny_pure ⟨_, rfl, ?_⟩
  show Q (.ref h₅.objs.size) _
  rw [hsz]
  exact hQ h₈ hz₈ (up _ _ D.TOz hTO₅) (h1₅.at fun o e => up _ o D.i1z e) (h2₅.at fun o e => up _ o D.i2z e) hT₈ fun c o c1 c2 c3 c4 e => up c o c1 (hk₅ c o c1 c2 c3 c4 e)
theorem wpAny_alive {a : Addr} {Q : Option Obj → Shared → Prop} (h : Q (s.heap.get? a) s) : wpAny (model prog w) A (loadIfAlive a) Q E s := fun _ _ _ => h
/-- the tuple that was handed out first is alive: the answer is no -/
theorem busy {z TI TO T : Addr} {b : Bool} {oT : Obj} {Q : Bool → Shared → Prop} (hz : IsZ s.heap z TI TO (rawInt T) b) (hT : s.heap.get? T = some oT)
    (hQ : ∀ h', IsZ h' z TI TO (rawInt T) true → Heap.SameBut z s.heap h' → Q false { s with heap := h' }) : wpAny (model prog w) A (Builtin.SmallTypes.ownedTupleIsFree (.ref z)) Q E s := by
  unfold Builtin.SmallTypes.ownedTupleIsFree
  refine wpAny_bind (wpAny_field hz rfl (x := rawInt T) rfl ?_)
  show wpAny _ _ (loadIfAlive T >>= _) _ _ _
  refine wpAny_bind (wpAny_alive ?_)
  rw [hT]
  show wpAny _ _ (field (.ref z) 1 >>= _) _ _ _
  refine wpAny_bind (wpAny_field hz rfl (x := .bool b) rfl ?_)
  cases b with
  | false =>
    show wpAny _ _ (setField (.ref z) 1 (.bool true) >>= fun _ => pure false) _ _ _
    exact wpAny_bind (wpAny_setField_rec hz (by simp) fun h₁ hz₁ hs₁ => wpAny_pure (hQ h₁ hz₁ hs₁))
  | true =>
    show wpAny _ _ (pure false) _ _ _
    exact wpAny_pure (hQ s.heap hz ⟨rfl, fun _ _ => rfl⟩)
theorem next_busy {z TI TO T i1 i2 l1 l2 : Addr} {k1 k2 : Nat} {bz : Bool} {oT : Obj} {xs ys : Array Value} {x y a b : Value} {Q : Value → Shared → Prop} (D : ZipApart z TI TO i1 i2 l1 l2)
    (hz : IsZ s.heap z TI TO (rawInt T) bz) (hT : s.heap.get? T = some oT) (hTI : IsPair s.heap TI (.ref i1) (.ref i2)) (hTO : IsPair s.heap TO a b)
    (h1 : IsIt kd1 s.heap i1 l1 k1) (h2 : IsIt kd2 s.heap i2 l2 k2) (hl1 : IsSq kd1 s.heap l1 xs) (hl2 : IsSq kd2 s.heap l2 ys) (hx : xs[k1]? = some x) (hy : ys[k2]? = some y)
    (hQ : ∀ h', IsZ h' z TI TO (rawInt T) true → IsPair h' TO a b → IsIt kd1 h' i1 l1 (k1 + 1) → IsIt kd2 h' i2 l2 (k2 + 1) → IsPair h' s.heap.objs.size x y →
      (∀ c o, c ≠ z → c ≠ i1 → c ≠ i2 → s.heap.get? c = some o → h'.get? c = some o) → Q (.ref s.heap.objs.size) { s with heap := h' }) :
    wpAny (model prog w) A (Builtin.«zip.__next__» ⟨[.ref z], []⟩) (fun fin s' => ∃ v, fin = .done (.ret v) ∧ Q v s') E s := by
  show wpAny _ _ (field (.ref z) 2 >>= _) _ _ _
  refine wpAny_bind (wpAny_field hz rfl (x := .bool false) rfl ?_)
  show wpAny _ _ (field (.ref z) 3 >>= _) _ _ _
  refine wpAny_bind (wpAny_field hz rfl (x := .ref TI) rfl ?_)
  refine wpAny_bind (wpAny_seqItems hTI rfl ?_)
  show wpAny _ _ (Builtin.SmallTypes.ownedTupleIsFree (.ref z) >>= _) _ _ _
  refine wpAny_bind (busy hz hT fun h₁ hz₁ hs₁ => ?_)
  rw [if_neg Bool.false_ne_true]
  refine wpAny_bind ?_
  first
  | rw [List.forIn_toArray]
  | (rw [← Array.forIn_toList]; simp only [List.toList_toArray])
  | rw [← Array.forIn_toList]
  simp only [List.forIn_cons, List.forIn_nil]
  refine wpAny_bind (wpAny_bind (wpAny_holding ?_))
  show wpAny _ _ (Builtin.SmallTypes.nextOf (.ref i1) >>= _) _ _ _
  refine wpAny_bind (it_item (h1.extBut hs₁.extBut D.i1z) (hl1.extBut hs₁.extBut D.l1z) hx fun h₂ h1₂ hs₂ => wpAny_pure ?_)
  refine wpAny_pure ?_
  refine wpAny_bind (wpAny_bind (wpAny_holding ?_))
  show wpAny _ _ (Builtin.SmallTypes.nextOf (.ref i2) >>= _) _ _ _
  refine wpAny_bind (it_item ((h2.extBut hs₁.extBut D.i2z).extBut hs₂.extBut D.i12.symm) ((hl2.extBut hs₁.extBut D.l2z).extBut hs₂.extBut D.l2i1) hy fun h₃ h2₃ hs₃ => wpAny_pure ?_)
  refine wpAny_pure (wpAny_pure ?_)
  show wpAny _ _ (newTuple [x, y] >>= _) _ _ _
  refine wpAny_bind (wpAny_newTuple ?_)
  have hsz : h₃.objs.size = s.heap.objs.size := by rw [hs₃.1, hs₂.1, hs₁.1]
  have hz₃ : IsZ h₃ z TI TO (rawInt T) true := hs₃.extBut _ _ D.i2z.symm (hs₂.extBut _ _ D.i1z.symm hz₁)
  have hk₃ : ∀ c o, c ≠ z → c ≠ i1 → c ≠ i2 → s.heap.get? c = some o → h₃.get? c = some o := fun c o c1 c3 c4 e => hs₃.extBut _ _ c4 (hs₂.extBut _ _ c3 (hs₁.extBut _ _ c1 e))
  refine wpAny_pure ⟨_, rfl, ?_⟩
  show Q (.ref h₃.objs.size) _
  have hp : IsPair (h₃.push { cls := .type "tuple", data := .seq #[x, y] }) h₃.objs.size x y := Heap.get?_push_size _ rfl
  rw [hsz] at hp
  rw [hsz]
  exact hQ _ (Heap.get?_push_of_some _ hz₃) (Heap.get?_push_of_some _ (hk₃ _ _ D.TOz D.TOi1 D.TOi2 hTO)) ((h1₂.extBut hs₃.extBut D.i12).at fun o e => Heap.get?_push_of_some _ e) (h2₃.at fun o e => Heap.get?_push_of_some _ e) hp
    fun c o c1 c3 c4 e => Heap.get?_push_of_some _ (hk₃ c o c1 c3 c4 e)
/-- the tuple's end -/
theorem end_free {z TI TO i1 i2 l1 l2 : Addr} {k1 : Nat} {xs : Array Value} {a b : Value} {Q : Fin → Shared → Prop} (hh : A.handled = none) (D : ZipApart z TI TO i1 i2 l1 l2)
    (hz : IsZ s.heap z TI TO .none false) (hTI : IsPair s.heap TI (.ref i1) (.ref i2)) (hTO : IsPair s.heap TO a b)
    (h1 : IsIt kd1 s.heap i1 l1 k1) (hl1 : IsSq kd1 s.heap l1 xs) (hend : xs[k1]? = none)
    (hE : ∀ h' e, (∀ c o, c ≠ z → c ≠ i1 → s.heap.get? c = some o → h'.get? c = some o) → (∃ o, h'.get? e = some o ∧ o.cls = .type "StopIteration") → E (.ref e) { s with heap := h' }) :
    wpAny (model prog w) A (Builtin.«zip.__next__» ⟨[.ref z], []⟩) Q E s := by
  show wpAny _ _ (field (.ref z) 2 >>= _) _ _ _
  refine wpAny_bind (wpAny_field hz rfl (x := .bool false) rfl ?_)
  show wpAny _ _ (field (.ref z) 3 >>= _) _ _ _
  refine wpAny_bind (wpAny_field hz rfl (x := .ref TI) rfl ?_)
  refine wpAny_bind (wpAny_seqItems hTI rfl ?_)
  show wpAny _ _ (Builtin.SmallTypes.ownedTupleIsFree (.ref z) >>= _) _ _ _
  refine wpAny_bind ?_
  unfold Builtin.SmallTypes.ownedTupleIsFree
  refine wpAny_bind (wpAny_field hz rfl (x := .none) rfl (wpAny_pure ?_))
  simp only [if_true]
  refine wpAny_bind (wpAny_rule ?_)
  refine wpAny_bind (wpAny_field hz rfl (x := .ref TO) rfl ?_)
  refine wpAny_bind (wpAny_setField_rec hz (by simp) fun h₁ hz₁ hs₁ => ?_)
  replace hz₁ : IsZ h₁ z TI TO .ellipsis false := hz₁
  refine wpAny_bind ?_
  simp only [List.zipIdx_cons, List.zipIdx_nil, List.forIn_cons, List.forIn_nil]
  refine wpAny_bind (wpAny_bind (wpAny_onRaise ?_))
  show wpAny _ _ (Builtin.SmallTypes.nextOf (.ref i1) >>= _) _ _ _
  refine wpAny_bind (it_end hh (h1.extBut hs₁.extBut D.i1z) (hl1.extBut hs₁.extBut D.l1z) hend fun h₂ e hs₂ he => ?_)
  obtain ⟨oe, hoe, hce⟩ := he
  have hz₂ : IsZ h₂ z TI TO .ellipsis false := hs₂ _ _ D.i1z.symm hz₁
  have hez : e ≠ z := fun x => by subst x; rw [hz₂] at hoe; cases hoe; simp at hce
  refine wpAny_setField_rec hz₂ (by simp) fun h₃ _ hs₃ => hE h₃ e (fun c o c1 c3 x => hs₃.extBut _ _ c1 (hs₂ _ _ c3 (hs₁.extBut _ _ c1 x))) ⟨oe, hs₃.extBut _ _ hez hoe, hce⟩
theorem end_busy {z TI TO T i1 i2 l1 l2 : Addr} {k1 : Nat} {bz : Bool} {oT : Obj} {xs : Array Value} {Q : Fin → Shared → Prop} (hh : A.handled = none) (D : ZipApart z TI TO i1 i2 l1 l2)
    (hz : IsZ s.heap z TI TO (rawInt T) bz) (hT : s.heap.get? T = some oT) (hTI : IsPair s.heap TI (.ref i1) (.ref i2))
    (h1 : IsIt kd1 s.heap i1 l1 k1) (hl1 : IsSq kd1 s.heap l1 xs) (hend : xs[k1]? = none)
    (hE : ∀ h' e, (∀ c o, c ≠ z → c ≠ i1 → s.heap.get? c = some o → h'.get? c = some o) → (∃ o, h'.get? e = some o ∧ o.cls = .type "StopIteration") → E (.ref e) { s with heap := h' }) :
    wpAny (model prog w) A (Builtin.«zip.__next__» ⟨[.ref z], []⟩) Q E s := by
  show wpAny _ _ (field (.ref z) 2 >>= _) _ _ _
  refine wpAny_bind (wpAny_field hz rfl (x := .bool false) rfl ?_)
  show wpAny _ _ (field (.ref z) 3 >>= _) _ _ _
  refine wpAny_bind (wpAny_field hz rfl (x := .ref TI) rfl ?_)
  refine wpAny_bind (wpAny_seqItems hTI rfl ?_)
  show wpAny _ _ (Builtin.SmallTypes.ownedTupleIsFree (.ref z) >>= _) _ _ _
  refine wpAny_bind (busy hz hT fun h₁ hz₁ hs₁ => ?_)
  rw [if_neg Bool.false_ne_true]
  refine wpAny_bind ?_
  first
  | rw [List.forIn_toArray]
  | (rw [← Array.forIn_toList]; simp only [List.toList_toArray])
  | rw [← Array.forIn_toList]
  simp only [List.forIn_cons, List.forIn_nil]
  refine wpAny_bind (wpAny_bind (wpAny_holding ?_))
  show wpAny _ _ (Builtin.SmallTypes.nextOf (.ref i1) >>= _) _ _ _
  refine wpAny_bind (it_end hh (h1.extBut hs₁.extBut D.i1z) (hl1.extBut hs₁.extBut D.l1z) hend fun h₂ e hs₂ he => ?_)
  exact hE h₂ e (fun c o c1 c3 x => hs₂ _ _ c3 (hs₁.extBut _ _ c1 x)) he
end
/-- the zip at z after i turns; the pairs made so far are the list's items -/
structure ZS (kd1 kd2 : Kd) (S z TI TO i1 i2 l1 l2 : Addr) (xs ys : Array Value) (i : Nat) (acc : Array Value) (h : Heap) : Prop where
  zip : (acc = #[] ∧ IsZ h z TI TO .none false) ∨ ∃ (T : Addr) (b : Bool), acc[0]? = some (.ref T) ∧ IsZ h z TI TO (rawInt T) b
  ti : IsPair h TI (.ref i1) (.ref i2)
  to : ∃ a b, IsPair h TO a b
  it1 : IsIt kd1 h i1 l1 i
  it2 : IsIt kd2 h i2 l2 i
  t1 : IsSq kd1 h l1 xs
  t2 : IsSq kd2 h l2 ys
  size : acc.size = i
  inj : ∀ (j k : Nat) (v : Value), acc[j]? = some v → acc[k]? = some v → j = k
  made : ∀ (j : Nat) (v : Value), acc[j]? = some v → ∃ (T : Addr) (x y : Value), v = Value.ref T ∧ T ≠ z ∧ T ≠ TO ∧ T ≠ i1 ∧ T ≠ i2 ∧ S < T ∧ xs[j]? = some x ∧ ys[j]? = some y ∧ IsPair h T x y
section
variable {kd1 kd2 : Kd} {prog : Program} {w : World} {A : Around} {E : Value → Shared → Prop} {s : Shared} {S z TI TO i1 i2 l1 l2 : Addr} {xs ys : Array Value}
theorem ZS.keep {i : Nat} {acc : Array Value} {h h' : Heap} (D : ZipApart z TI TO i1 i2 l1 l2) (hS : S ≠ z ∧ S ≠ TI ∧ S ≠ TO ∧ S ≠ i1 ∧ S ≠ i2 ∧ S ≠ l1 ∧ S ≠ l2) (g : ZS kd1 kd2 S z TI TO i1 i2 l1 l2 xs ys i acc h) (k : ∀ b o, b ≠ S → h.get? b = some o → h'.get? b = some o) : ZS kd1 kd2 S z TI TO i1 i2 l1 l2 xs ys i acc h' := by
  obtain ⟨a, b, c, d, e, f, g'⟩ := hS
  refine ⟨?_, k _ _ b.symm g.ti, ?_, g.it1.at fun o => k _ o d.symm, g.it2.at fun o => k _ o e.symm, g.t1.at fun o => k _ o f.symm, g.t2.at fun o => k _ o g'.symm, g.size, g.inj, fun j v hv => ?_⟩
  · rcases g.zip with ⟨q, z1⟩ | ⟨T, bb, q, z1⟩
    · exact .inl ⟨q, k _ _ a.symm z1⟩
    · exact .inr ⟨T, bb, q, k _ _ a.symm z1⟩
  · obtain ⟨p, q, hp⟩ := g.to
    exact ⟨p, q, k _ _ c.symm hp⟩
  · obtain ⟨T, x, y, e1, a1, a2, a3, a4, a5, e2, e3, e4⟩ := g.made j v hv
    exact ⟨T, x, y, e1, a1, a2, a3, a4, a5, e2, e3, k _ _ (Nat.ne_of_gt a5) e4⟩
theorem zs_item {i : Nat} {acc : Array Value} {x y : Value} {Q : Option Value → Shared → Prop} (D : ZipApart z TI TO i1 i2 l1 l2) (g : ZS kd1 kd2 S z TI TO i1 i2 l1 l2 xs ys i acc s.heap) (hx : xs[i]? = some x) (hy : ys[i]? = some y) {oS : Obj} (hSS : s.heap.get? S = some oS)
    (hQ : ∀ v h', ZS kd1 kd2 S z TI TO i1 i2 l1 l2 xs ys (i + 1) (acc.push v) h' → (∀ c o, c ≠ z → c ≠ TO → c ≠ i1 → c ≠ i2 → s.heap.get? c = some o → h'.get? c = some o) → Q (some v) { s with heap := h' }) :
    wpAny (model prog w) A (pyNext (.ref z)) Q E s := by
  have hT : s.TypeIs (.ref z) "zip" := by
    rcases g.zip with ⟨q, z1⟩ | ⟨T, bb, q, z1⟩
    · exact ⟨_, z1, rfl⟩
    · exact ⟨_, z1, rfl⟩
  obtain ⟨a, b, hTO⟩ := g.to
  have ne : ∀ {c o}, s.heap.get? c = some o → s.heap.objs.size ≠ c := fun e => Nat.ne_of_gt (Heap.lt_size e)
  have hi1 : ∃ o, s.heap.get? i1 = some o := g.it1.ex
  have hi2 : ∃ o, s.heap.get? i2 = some o := g.it2.ex
  have hz' : ∃ o, s.heap.get? z = some o := by
    rcases g.zip with ⟨q, z1⟩ | ⟨T, bb, q, z1⟩
    · exact ⟨_, z1⟩
    · exact ⟨_, z1⟩
  have made : ∀ h', IsPair h' s.heap.objs.size x y → (∀ c o, c ≠ z → c ≠ TO → c ≠ i1 → c ≠ i2 → s.heap.get? c = some o → h'.get? c = some o) →
      ∀ (j : Nat) (v : Value), (acc.push (Value.ref s.heap.objs.size))[j]? = some v → ∃ (T : Addr) (x y : Value), v = Value.ref T ∧ T ≠ z ∧ T ≠ TO ∧ T ≠ i1 ∧ T ≠ i2 ∧ S < T ∧ xs[j]? = some x ∧ ys[j]? = some y ∧ IsPair h' T x y := by
    intro h' hp hk j v hv
    rw [Array.getElem?_push] at hv
    split at hv
    · rename_i e
      rw [g.size] at e
      subst e
      obtain rfl := Option.some.inj hv
      exact ⟨_, x, y, rfl, let ⟨_, e⟩ := hz'; ne e, ne hTO, let ⟨_, e⟩ := hi1; ne e, let ⟨_, e⟩ := hi2; ne e, Heap.lt_size hSS, hx, hy, hp⟩
    · obtain ⟨T, x', y', e1, a1, a2, a3, a4, a5, e2, e3, e4⟩ := g.made j v hv
      exact ⟨T, x', y', e1, a1, a2, a3, a4, a5, e2, e3, hk _ _ a1 a2 a3 a4 e4⟩
  have inj : ∀ (j k : Nat) (v : Value), (acc.push (Value.ref s.heap.objs.size))[j]? = some v → (acc.push (Value.ref s.heap.objs.size))[k]? = some v → j = k := by
    intro j k v h1 h2
    have old : ∀ j : Nat, acc[j]? ≠ some (Value.ref s.heap.objs.size) := fun j e => by
      obtain ⟨T, x', y', e1, a1, a2, a3, a4, a5, e2, e3, e4⟩ := g.made j _ e
      obtain rfl := Value.ref.inj e1
      exact absurd rfl (ne e4)
    rw [Array.getElem?_push] at h1 h2
    split at h1
    · split at h2
      · omega
      · obtain rfl := Option.some.inj h1
        exact absurd h2 (old k)
    · split at h2
      · obtain rfl := Option.some.inj h2
        exact absurd h1 (old j)
      · exact g.inj j k v h1 h2
  unfold pyNext
  rcases g.zip with ⟨q, z1⟩ | ⟨T, bb, q, z1⟩
  · refine wpAny_bind (wpAny_attempt (wpAny_callSpecial?_slot (name := Str.ofString "__next__") hT F.slot_zip_next
      (wpAny_call_entry F.slot_zip_next hT F.entry_zip_next (next_free D z1 g.ti hTO g.it1 g.it2 g.t1 g.t2 hx hy fun h' q1 q2 q3 q4 q5 hk => wpAny_pure ?_) (F.args_zip_next_1 _))))
    subst q
    exact hQ _ h' ⟨.inr ⟨_, _, by simp, q1⟩, hk _ _ D.TIz D.TITO D.TIi1 D.TIi2 g.ti, ⟨_, _, q2⟩, q3, q4, g.t1.at fun o => hk _ o D.l1z D.l1TO D.l1i1 D.l1i2, g.t2.at fun o => hk _ o D.l2z D.l2TO D.l2i1 D.l2i2, by rw [Array.size_push, g.size], inj, made h' q5 hk⟩ hk
  · obtain ⟨T', x0, y0, e1, a1, a2, a3, a4, a5, e2, e3, e4⟩ := g.made 0 _ q
    obtain rfl : T = T' := Value.ref.inj e1
    refine wpAny_bind (wpAny_attempt (wpAny_callSpecial?_slot (name := Str.ofString "__next__") hT F.slot_zip_next
      (wpAny_call_entry F.slot_zip_next hT F.entry_zip_next (next_busy D z1 e4 g.ti hTO g.it1 g.it2 g.t1 g.t2 hx hy fun h' q1 q2 q3 q4 q5 hk => wpAny_pure ?_) (F.args_zip_next_1 _))))
    have hk' : ∀ c o, c ≠ z → c ≠ TO → c ≠ i1 → c ≠ i2 → s.heap.get? c = some o → h'.get? c = some o := fun c o c1 _ c3 c4 => hk c o c1 c3 c4
    refine hQ _ h' ⟨.inr ⟨T, true, ?_, q1⟩, hk' _ _ D.TIz D.TITO D.TIi1 D.TIi2 g.ti, ⟨_, _, q2⟩, q3, q4, g.t1.at fun o => hk' _ o D.l1z D.l1TO D.l1i1 D.l1i2, g.t2.at fun o => hk' _ o D.l2z D.l2TO D.l2i1 D.l2i2, by rw [Array.size_push, g.size], inj, made h' q5 hk'⟩ hk'
    have hlt := (Array.getElem?_eq_some_iff.mp q).1
    rw [Array.getElem?_push_lt hlt, ← Array.getElem?_eq_getElem hlt]
    exact q
theorem zs_end {i : Nat} {acc : Array Value} {Q : Option Value → Shared → Prop} (hh : A.handled = none) (D : ZipApart z TI TO i1 i2 l1 l2) (g : ZS kd1 kd2 S z TI TO i1 i2 l1 l2 xs ys i acc s.heap) (hx : xs[i]? = none)
    (hQ : ∀ h', (∀ c o, c ≠ z → c ≠ i1 → s.heap.get? c = some o → h'.get? c = some o) → Q none { s with heap := h' }) :
    wpAny (model prog w) A (pyNext (.ref z)) Q E s := by
  have hT : s.TypeIs (.ref z) "zip" := by
    rcases g.zip with ⟨q, z1⟩ | ⟨T, bb, q, z1⟩
    · exact ⟨_, z1, rfl⟩
    · exact ⟨_, z1, rfl⟩
  obtain ⟨a, b, hTO⟩ := g.to
  unfold pyNext
  rcases g.zip with ⟨q, z1⟩ | ⟨T, bb, q, z1⟩
  · refine wpAny_bind (wpAny_attempt (wpAny_callSpecial?_slot (name := Str.ofString "__next__") hT F.slot_zip_next
      (wpAny_call_entry F.slot_zip_next hT F.entry_zip_next (end_free hh D z1 g.ti hTO g.it1 g.t1 hx fun h' e hk he => ?_) (F.args_zip_next_1 _))))
    obtain ⟨o, ho, hc⟩ := he
    refine wpAny_bind (wpAny_isInstance (T := "StopIteration") (b := true) ⟨o, ho, hc⟩ isSubtype_stop ?_)
    exact wpAny_pure (hQ _ hk)
  · obtain ⟨T', x0, y0, e1, a1, a2, a3, a4, a5, e2, e3, e4⟩ := g.made 0 _ q
    obtain rfl : T = T' := Value.ref.inj e1
    refine wpAny_bind (wpAny_attempt (wpAny_callSpecial?_slot (name := Str.ofString "__next__") hT F.slot_zip_next
      (wpAny_call_entry F.slot_zip_next hT F.entry_zip_next (end_busy hh D z1 e4 g.ti g.it1 g.t1 hx fun h' e hk he => ?_) (F.args_zip_next_1 _))))
    obtain ⟨o, ho, hc⟩ := he
    refine wpAny_bind (wpAny_isInstance (T := "StopIteration") (b := true) ⟨o, ho, hc⟩ isSubtype_stop ?_)
    exact wpAny_pure (hQ _ hk)
theorem code_loop {R : Result → Shared → Prop} (hh : A.handled = none) (D : ZipApart z TI TO i1 i2 l1 l2) (hS : S ≠ z ∧ S ≠ TI ∧ S ≠ TO ∧ S ≠ i1 ∧ S ≠ i2 ∧ S ≠ l1 ∧ S ≠ l2) (hl : xs.size ≤ ys.size) (hn : xs.size ≤ sizeLine) (res : Value) :
    ∀ (k i : Nat) (s : Shared) (acc : Array Value) (c : Nat), xs.size - i = k → i ≤ xs.size → ZS kd1 kd2 S z TI TO i1 i2 l1 l2 xs ys i acc s.heap → s.heap.get? S = some { cls := .type "list", dict := none, data := .seq acc c, slots := #[] } →
    (∀ h' acc' c', (∀ b o, b ≠ S → b ≠ z → b ≠ TO → b ≠ i1 → b ≠ i2 → s.heap.get? b = some o → h'.get? b = some o) → h'.get? S = some { cls := .type "list", dict := none, data := .seq acc' c', slots := #[] } →
      acc'.size = xs.size → (∀ (j k : Nat) (v : Value), acc'[j]? = some v → acc'[k]? = some v → j = k) → (∀ (j : Nat) (v : Value), acc'[j]? = some v → ∃ (T : Addr) (x y : Value), v = Value.ref T ∧ xs[j]? = some x ∧ ys[j]? = some y ∧ IsPair h' T x y ∧ S < T ∧ T ≠ z ∧ T ≠ TO ∧ T ≠ i1 ∧ T ≠ i2) → R (.ok (.ret res)) { s with heap := h' }) →
    codeAny (model prog w) A (.builtin "list.extend.loop" ⟨[.ref S, .ref z, res], []⟩) R s := by
  intro k
  induction k with
  | zero =>
    intro i s acc c hk hi hst hSS hR
    have hin : i = xs.size := by omega
    subst hin
    refine codeAny_builtin F.entry_extend_loop ?_
    rw [Around.under_plainId F.plain_extend_loop _]
    show wpAny _ A.in1 (pyNext (.ref z) >>= _) _ _ s
    refine wpAny_bind (zs_end hh D hst (Array.getElem?_eq_none (Nat.le_refl _)) fun h' hk' => ?_)
    refine wpAny_pure (hR h' acc c (fun b o _ c1 _ c3 _ e => hk' b o c1 c3 e) (hk' _ _ hS.1 hS.2.2.2.1 hSS) hst.size hst.inj fun j v hv => ?_)
    obtain ⟨T, x, y, e1, a1, a2, a3, a4, a5, e2, e3, e4⟩ := hst.made j v hv
    exact ⟨T, x, y, e1, e2, e3, hk' _ _ a1 a3 e4, a5, a1, a2, a3, a4⟩
  | succ k ih =>
    intro i s acc c hk hi hst hSS hR
    have hlt : i < xs.size := by omega
    refine codeAny_builtin F.entry_extend_loop ?_
    rw [Around.under_plainId F.plain_extend_loop _]
    show wpAny _ A.in1 (pyNext (.ref z) >>= _) _ _ s
    refine wpAny_bind (zs_item D hst (Array.getElem?_eq_getElem hlt) (Array.getElem?_eq_getElem (by omega)) hSS fun v h' hst' hk' => ?_)
    have hS' := hk' _ _ hS.1 hS.2.2.1 hS.2.2.2.1 hS.2.2.2.2.1 hSS
    show wpAny _ A.in1 (updateSeq S (·.push v) >>= _) _ _ _
    refine wpAny_bind ?_
    refine wpAny_updateSeq hS' rfl (wpAny_pure ⟨plainId_quiet F.plain_extend_loop _, ih (i + 1) _ (acc.push v) _ (by omega) hlt (hst'.keep D hS fun b o hb e => ?_) (Heap.get?_update_self _ hS' rfl) fun h'' acc' c' hk'' hS'' hz hj hm => ?_⟩)
      (by rw [hst.size]; omega) (by show (acc.push v).size ≤ sizeLine + 1; rw [Array.size_push, hst.size]; omega)
    · exact (Heap.get?_update_other _ _ (Ne.symm hb)).trans e
    · exact hR h'' acc' c' (fun b o b0 b1 b2 b3 b4 e => hk'' b o b0 b1 b2 b3 b4 ((Heap.get?_update_other _ _ (Ne.symm b0)).trans (hk' b o b1 b2 b3 b4 e))) hS'' hz hj hm
end
theorem no_len : typeLookup (.type "zip") "__len__" = pure none := by rw [typeLookup_type, builtinLookup_eq_fast]; kernel_rfl
theorem no_hint : typeLookup (.type "zip") "__length_hint__" = pure none := by rw [typeLookup_type, builtinLookup_eq_fast]; kernel_rfl
section
variable {kd1 kd2 : Kd} {prog : Program} {w : World} {A : Around} {E : Value → Shared → Prop} {s : Shared} {S z TI TO i1 i2 l1 l2 : Addr} {xs ys : Array Value}
theorem extend_zip {R : Result → Shared → Prop} (hh : A.handled = none) (D : ZipApart z TI TO i1 i2 l1 l2) (hS : S ≠ z ∧ S ≠ TI ∧ S ≠ TO ∧ S ≠ i1 ∧ S ≠ i2 ∧ S ≠ l1 ∧ S ≠ l2) (hl : xs.size ≤ ys.size) (hn : xs.size ≤ sizeLine) (res : Value)
    (hst : ZS kd1 kd2 S z TI TO i1 i2 l1 l2 xs ys 0 #[] s.heap) (c0 : Nat) (hSS : s.heap.get? S = some { cls := .type "list", data := .seq #[] c0 })
    (hR : ∀ h' acc' c', (∀ b o, b ≠ S → b ≠ z → b ≠ TO → b ≠ i1 → b ≠ i2 → s.heap.get? b = some o → h'.get? b = some o) → h'.get? S = some { cls := .type "list", dict := none, data := .seq acc' c', slots := #[] } →
      acc'.size = xs.size → (∀ (j k : Nat) (v : Value), acc'[j]? = some v → acc'[k]? = some v → j = k) → (∀ (j : Nat) (v : Value), acc'[j]? = some v → ∃ (T : Addr) (x y : Value), v = Value.ref T ∧ xs[j]? = some x ∧ ys[j]? = some y ∧ IsPair h' T x y ∧ S < T ∧ T ≠ z ∧ T ≠ TO ∧ T ≠ i1 ∧ T ≠ i2) → R (.ok (.ret res)) { s with heap := h' }) :
    wpAny (model prog w) A.in1 (Builtin.List.listExtendWith (.ref S) (.ref z) res)
      (fun fin s' => match fin with | .done f => R (.ok f) s' | .again c' => c'.quiet = true ∧ codeAny (model prog w) A c' R s') (fun e s' => R (.error e) s') s := by
  have hT : ∀ s' : Shared, ZS kd1 kd2 S z TI TO i1 i2 l1 l2 xs ys 0 #[] s'.heap → s'.TypeIs (.ref z) "zip" := fun s' g => by
    rcases g.zip with ⟨q, z1⟩ | ⟨T, bb, q, z1⟩
    · exact ⟨_, z1, rfl⟩
    · exact ⟨_, z1, rfl⟩
  unfold Builtin.List.listExtendWith
  refine wpAny_bind (wpAny_typeOf (hT s hst) ?_)
  have h1 : Builtin.List.listSameRef (.ref S) (.ref z) = false := by simp [Builtin.List.listSameRef, hS.1]
  rw [if_neg (by rw [h1]; decide)]
  have hz0 : IsZip s.heap z TI TO .none := by
    rcases hst.zip with ⟨q, z1⟩ | ⟨T, bb, q, z1⟩
    · exact z1
    · simp at q
  refine wpAny_bind (wpAny_pyIter_zip hz0 ?_)
  refine wpAny_bind (wpAny_holding ?_)
  unfold Builtin.List.listLengthHint
  refine wpAny_bind (wpAny_specialOf (hT s hst) no_len ?_)
  show wpAny _ _ (specialOf (Value.ref z) (Str.ofString "__length_hint__") >>= _) _ _ _
  refine wpAny_bind (wpAny_specialOf (hT s hst) no_hint ?_)
  refine wpAny_pure ?_
  have fin : ∀ (h2 : Heap), (∃ c1, h2.get? S = some { cls := .type "list", dict := none, data := .seq #[] c1, slots := #[] }) →
      (∀ b o, b ≠ S → s.heap.get? b = some o → h2.get? b = some o) →
      (fun fin s' => match fin with | .done f => R (.ok f) s' | .again c' => c'.quiet = true ∧ codeAny (model prog w) A c' R s') (PySem.Fin.again (.builtin "list.extend.loop" ⟨[.ref S, .ref z, res], []⟩)) { s with heap := h2 } := by
    intro h2 hS2 k2
    obtain ⟨c1, hS2⟩ := hS2
    refine ⟨plainId_quiet F.plain_extend_loop _, code_loop hh D hS hl hn res xs.size 0 { s with heap := h2 } #[] c1 rfl (Nat.zero_le _) (hst.keep D hS k2) hS2 fun h' acc' c' hk' hS' hz' hj' hm' => ?_⟩
    exact hR h' acc' c' (fun b o b0 b1 b2 b3 b4 e => hk' b o b0 b1 b2 b3 b4 (k2 b o b0 e)) hS' hz' hj' hm'
  show wpAny _ A.in1 (rule "list.extend.makes-room" >>= fun _ => Builtin.List.listTouch (.ref S) >>= fun _ => again (.builtin "list.extend.loop" ⟨[.ref S, .ref z, res], []⟩)) _ _ _
  refine wpAny_bind (wpAny_rule ?_)
  refine wpAny_bind ?_
  show wpAny _ A.in1 (updateSeq S (·.push .none) >>= fun _ => updateSeq S (·.pop)) _ _ _
  refine wpAny_bind (wpAny_updateSeq hSS rfl ?_ (Nat.zero_le _) (by rw [sizeLine_eq]; show 1 ≤ _; decide))
  have hS3 := Heap.get?_update_self (Obj.mapSeq (·.push Value.none)) hSS rfl
  refine wpAny_updateSeq (s := { s with heap := s.heap.update S (Obj.mapSeq (·.push Value.none)) }) hS3 rfl ?_ (by rw [sizeLine_eq]; show 1 ≤ _; decide) (Nat.zero_le _)
  have hS4 := Heap.get?_update_self (Obj.mapSeq (·.pop)) hS3 rfl
  refine wpAny_pure (fin _ ⟨_, hS4⟩ fun b o hb e => ?_)
  exact (Heap.get?_update_other _ _ (Ne.symm hb)).trans ((Heap.get?_update_other _ _ (Ne.symm hb)).trans e)
end
abbrev mH1 (kd1 : Kd) (h : Heap) (l1 : Addr) : Heap := h.push { cls := .type kd1.it, data := .fields #[.ref l1, .int 0 0] }
abbrev mH2 (kd1 kd2 : Kd) (h : Heap) (l1 l2 : Addr) : Heap := (mH1 kd1 h l1).push { cls := .type kd2.it, data := .fields #[.ref l2, .int 0 0] }
abbrev mH3 (kd1 kd2 : Kd) (h : Heap) (l1 l2 : Addr) : Heap := (mH2 kd1 kd2 h l1 l2).push { cls := .type "tuple", data := .seq #[.ref h.objs.size, .ref (mH1 kd1 h l1).objs.size] }
abbrev mH4 (kd1 kd2 : Kd) (h : Heap) (l1 l2 : Addr) : Heap := (mH3 kd1 kd2 h l1 l2).push { cls := .type "tuple", data := .seq #[.none, .none] }
abbrev mH5 (kd1 kd2 : Kd) (h : Heap) (l1 l2 : Addr) : Heap := (mH4 kd1 kd2 h l1 l2).push { cls := .type "zip", data := .fields #[.none, .bool false, .bool false, .ref (mH2 kd1 kd2 h l1 l2).objs.size, .ref (mH3 kd1 kd2 h l1 l2).objs.size] }
theorem meets_zip_new (kd1 kd2 : Kd) (l1 l2 : Addr) (xs ys : Array Value) :
    Meets (Builtin.«zip.__new__» ⟨[.type "zip", .ref l1, .ref l2], []⟩) (fun _ R s => IsSq kd1 s.heap l1 xs ∧ IsSq kd2 s.heap l2 ys ∧
      R (.ok (.ret (.ref (mH4 kd1 kd2 s.heap l1 l2).objs.size))) { s with heap := mH5 kd1 kd2 s.heap l1 l2 }) := by
  cases kd1 <;> cases kd2
  · refine .of_wp fun prog w A R s h => ?_
    obtain ⟨hp, g, d, tk, os⟩ := s; obtain ⟨hl1, hl2, h⟩ := h
    have hsub := sub_zip
    have hL1 : Heap.IsTuple (Shared.heap ⟨hp, g, d, tk, os⟩) l1 xs := hl1
    have hL2 : Heap.IsTuple (Shared.heap ⟨hp.push { cls := .type "tuple_iterator", data := .fields #[.ref l1, .int 0 0] }, g, d, tk, os⟩) l2 ys := Heap.IsTuple.push hl2 _
    wp_walk using wpAny_pyIter_tuple hL1, wpAny_pyIter_tuple hL2
    exact ⟨_, rfl, h⟩
  · refine .of_wp fun prog w A R s h => ?_
    obtain ⟨hp, g, d, tk, os⟩ := s; obtain ⟨hl1, hl2, h⟩ := h
    have hsub := sub_zip
    have hL1 : Heap.IsTuple (Shared.heap ⟨hp, g, d, tk, os⟩) l1 xs := hl1
    have hL2 : Heap.IsList (Shared.heap ⟨hp.push { cls := .type "tuple_iterator", data := .fields #[.ref l1, .int 0 0] }, g, d, tk, os⟩) l2 ys := Heap.IsList.push hl2 _
    wp_walk using wpAny_pyIter_tuple hL1, wpAny_pyIter_list hL2
    exact ⟨_, rfl, h⟩
  · refine .of_wp fun prog w A R s h => ?_
    obtain ⟨hp, g, d, tk, os⟩ := s; obtain ⟨hl1, hl2, h⟩ := h
    have hsub := sub_zip
    have hL1 : Heap.IsList (Shared.heap ⟨hp, g, d, tk, os⟩) l1 xs := hl1
    have hL2 : Heap.IsTuple (Shared.heap ⟨hp.push { cls := .type "list_iterator", data := .fields #[.ref l1, .int 0 0] }, g, d, tk, os⟩) l2 ys := Heap.IsTuple.push hl2 _
    wp_walk using wpAny_pyIter_list hL1, wpAny_pyIter_tuple hL2
    exact ⟨_, rfl, h⟩
  · refine .of_wp fun prog w A R s h => ?_
    obtain ⟨hp, g, d, tk, os⟩ := s; obtain ⟨hl1, hl2, h⟩ := h
    have hsub := sub_zip
    have hL1 : Heap.IsList (Shared.heap ⟨hp, g, d, tk, os⟩) l1 xs := hl1
    have hL2 : Heap.IsList (Shared.heap ⟨hp.push { cls := .type "list_iterator", data := .fields #[.ref l1, .int 0 0] }, g, d, tk, os⟩) l2 ys := Heap.IsList.push hl2 _
    wp_walk using wpAny_pyIter_list hL1, wpAny_pyIter_list hL2
    exact ⟨_, rfl, h⟩
section
variable {kd1 kd2 : Kd} {prog : Program} {w : World} {A : Around} {E : Value → Shared → Prop} {s : Shared}
theorem call_zip {l1 l2 : Addr} {xs ys : Array Value} {Q : Value → Shared → Prop} (hl1 : IsSq kd1 s.heap l1 xs) (hl2 : IsSq kd2 s.heap l2 ys)
    (h : ∀ h', IsZip h' (s.heap.objs.size + 4) (s.heap.objs.size + 2) (s.heap.objs.size + 3) .none → IsPair h' (s.heap.objs.size + 2) (.ref s.heap.objs.size) (.ref (s.heap.objs.size + 1)) →
      IsPair h' (s.heap.objs.size + 3) .none .none → IsIt kd1 h' s.heap.objs.size l1 0 → IsIt kd2 h' (s.heap.objs.size + 1) l2 0 → h'.objs.size = s.heap.objs.size + 5 →
      (∀ c o, s.heap.get? c = some o → h'.get? c = some o) → Q (.ref (s.heap.objs.size + 4)) { s with heap := h' }) :
    wpAny (model prog w) A (call (.type "zip") [.ref l1, .ref l2]) Q E s := by
  refine callType_new F.called_zip (by decide) (F.typeCall_zip_2 _ _) (F.newCall_zip_2 _ _) (fun obj => F.args_object_init_3 obj _ _) F.entry_zip_new
    (meets_zip_new kd1 kd2 l1 l2 xs ys) ⟨hl1, hl2, ?_⟩
  have z1 : (mH1 kd1 s.heap l1).objs.size = s.heap.objs.size + 1 := Heap.size_push ..
  have z2 : (mH2 kd1 kd2 s.heap l1 l2).objs.size = s.heap.objs.size + 2 := by rw [Heap.size_push, z1]
  have z3 : (mH3 kd1 kd2 s.heap l1 l2).objs.size = s.heap.objs.size + 3 := by rw [Heap.size_push, z2]
  have z4 : (mH4 kd1 kd2 s.heap l1 l2).objs.size = s.heap.objs.size + 4 := by rw [Heap.size_push, z3]
  have z5 : (mH5 kd1 kd2 s.heap l1 l2).objs.size = s.heap.objs.size + 5 := by rw [Heap.size_push, z4]
  have g5 : (mH5 kd1 kd2 s.heap l1 l2).get? (mH4 kd1 kd2 s.heap l1 l2).objs.size = some _ := Heap.get?_push_size _ rfl
  have g4 : (mH5 kd1 kd2 s.heap l1 l2).get? (mH3 kd1 kd2 s.heap l1 l2).objs.size = some _ := Heap.get?_push_of_some _ (Heap.get?_push_size _ rfl)
  have g3 : (mH5 kd1 kd2 s.heap l1 l2).get? (mH2 kd1 kd2 s.heap l1 l2).objs.size = some _ := Heap.get?_push_of_some _ (Heap.get?_push_of_some _ (Heap.get?_push_size _ rfl))
  have g2 : (mH5 kd1 kd2 s.heap l1 l2).get? (mH1 kd1 s.heap l1).objs.size = some _ := Heap.get?_push_of_some _ (Heap.get?_push_of_some _ (Heap.get?_push_of_some _ (Heap.get?_push_size _ rfl)))
  have g1 : (mH5 kd1 kd2 s.heap l1 l2).get? s.heap.objs.size = some _ := Heap.get?_push_of_some _ (Heap.get?_push_of_some _ (Heap.get?_push_of_some _ (Heap.get?_push_of_some _ (Heap.get?_push_size _ rfl))))
  show _ ∧ _
  rw [z2, z3, z4] at g5
  rw [z1, z2] at g3
  rw [z3] at g4
  rw [z1] at g2
  rw [z4]
  exact ⟨⟨_, g5, rfl⟩, h _ g5 g3 g4 (by cases kd1 <;> exact ⟨_, g1, rfl, rfl⟩) (by cases kd2 <;> exact ⟨_, g2, rfl, rfl⟩) z5 fun c o x =>
    Heap.get?_push_of_some _ (Heap.get?_push_of_some _ (Heap.get?_push_of_some _ (Heap.get?_push_of_some _ (Heap.get?_push_of_some _ x))))⟩
/-- list(z), z such a zip just made -/
theorem call_list_zip {Q : Value → Shared → Prop} (hh : A.handled = none) {z TI TO i1 i2 l1 l2 : Addr} {xs ys : Array Value} (D : ZipApart z TI TO i1 i2 l1 l2) (hl : xs.size ≤ ys.size) (hn : xs.size ≤ sizeLine)
    (hz : IsZip s.heap z TI TO .none) (hTI : IsPair s.heap TI (.ref i1) (.ref i2)) (hTO : IsPair s.heap TO .none .none) (h1 : IsIt kd1 s.heap i1 l1 0) (h2 : IsIt kd2 s.heap i2 l2 0) (hl1 : IsSq kd1 s.heap l1 xs) (hl2 : IsSq kd2 s.heap l2 ys)
    (hQ : ∀ h' acc' c', (∀ b o, b ≠ z → b ≠ TO → b ≠ i1 → b ≠ i2 → s.heap.get? b = some o → h'.get? b = some o) →
      h'.get? s.heap.objs.size = some { cls := .type "list", dict := none, data := .seq acc' c', slots := #[] } → acc'.size = xs.size → (∀ (j k : Nat) (v : Value), acc'[j]? = some v → acc'[k]? = some v → j = k) →
      (∀ (j : Nat) (v : Value), acc'[j]? = some v → ∃ (T : Addr) (x y : Value), v = Value.ref T ∧ xs[j]? = some x ∧ ys[j]? = some y ∧ IsPair h' T x y ∧ s.heap.objs.size < T ∧ T ≠ z ∧ T ≠ TO ∧ T ≠ i1 ∧ T ≠ i2) → Q (.ref s.heap.objs.size) { s with heap := h' }) :
    wpAny (model prog w) A (call (.type "list") [.ref z]) Q E s := by
  refine callType_codes (Q₁ := fun obj s1 => obj = .ref s.heap.objs.size ∧ s1 = { s with heap := s.heap.push { cls := .type "list", data := .seq #[] } }) F.called_list (F.typeCall_list_1 _) F.entry_list_init
    (code_list_new _ ⟨rfl, rfl⟩) fun obj s1 h1' => ?_
  obtain ⟨rfl, rfl⟩ := h1'
  have hS : (s.heap.push { cls := .type "list", data := .seq #[] }).get? s.heap.objs.size = some { cls := .type "list", data := .seq #[] } := Heap.get?_push_size _ rfl
  have hS2 := Heap.get?_update_self (Obj.mapSeq (fun _ => (#[] : Array Value))) hS rfl
  have oth : ∀ b o, b ≠ s.heap.objs.size → (s.heap.push { cls := .type "list", data := .seq #[] }).get? b = some o → ((s.heap.push { cls := .type "list", data := .seq #[] }).update s.heap.objs.size (Obj.mapSeq (fun _ => (#[] : Array Value)))).get? b = some o :=
    fun b o hb e => (Heap.get?_update_other _ _ (Ne.symm hb)).trans e
  have old : ∀ b o, s.heap.get? b = some o → ((s.heap.push { cls := .type "list", data := .seq #[] }).update s.heap.objs.size (Obj.mapSeq (fun _ => (#[] : Array Value)))).get? b = some o :=
    fun b o e => oth b o (Nat.ne_of_lt (Heap.lt_size e)) (Heap.get?_push_of_some _ e)
  refine ⟨⟨_, hS, rfl⟩, F.args_list_init_2 _ _, ?_⟩
  show wpAny _ _ (do let old ← Builtin.List.listItems (.ref s.heap.objs.size); Builtin.List.listUpdate (.ref s.heap.objs.size) (fun _ => #[]); letGo old.toList.reverse; Builtin.List.listExtendWith (.ref s.heap.objs.size) (.ref z) .none) _ _ _
  refine wpAny_bind ?_
  unfold Builtin.List.listItems
  refine wpAny_bind (wpAny_seqItems hS rfl (wpAny_pure ?_))
  show wpAny _ _ (updateSeq s.heap.objs.size (fun _ => #[]) >>= fun _ => letGo (#[] : Array Value).toList.reverse >>= fun _ => Builtin.List.listExtendWith (.ref s.heap.objs.size) (.ref z) .none) _ _ _
  refine wpAny_bind (wpAny_updateSeq hS rfl ?_)
  refine wpAny_bind (wpAny_letGo ?_)
  have gt : ∀ {c o}, s.heap.get? c = some o → s.heap.objs.size ≠ c := fun e => Nat.ne_of_gt (Heap.lt_size e)
  have g1 : ∃ o, s.heap.get? i1 = some o := h1.ex
  have g2 : ∃ o, s.heap.get? i2 = some o := h2.ex
  have g3 : ∃ o, s.heap.get? l1 = some o := hl1.ex
  have g4 : ∃ o, s.heap.get? l2 = some o := hl2.ex
  refine extend_zip (A := A.in1) hh D ⟨gt hz, gt hTI, gt hTO, let ⟨_, e⟩ := g1; gt e, let ⟨_, e⟩ := g2; gt e, let ⟨_, e⟩ := g3; gt e, let ⟨_, e⟩ := g4; gt e⟩ hl hn .none
    ⟨.inl ⟨rfl, old _ _ hz⟩, old _ _ hTI, ⟨_, _, old _ _ hTO⟩, h1.at fun o => old _ o, h2.at fun o => old _ o, hl1.at fun o => old _ o, hl2.at fun o => old _ o, rfl, fun j k v hv _ => by simp at hv, fun j v hv => by simp at hv⟩ _ hS2 fun h' acc' c' hk hS' hz' hj hm => ?_
  exact ⟨rfl, hQ h' acc' c' (fun b o b1 b2 b3 b4 e => hk b o (Nat.ne_of_lt (Heap.lt_size e)) b1 b2 b3 b4 (old b o e)) hS' hz' hj hm⟩
end
end XZ2

set_option Elab.async false
set_option linter.all false
set_option maxRecDepth 100000
set_option maxHeartbeats 1000000
namespace XZ2
open PySem PySem.Spec PyProof.Rows RZ L2
def SqK (K : PySem.W.Frag) (k : Kd) (H : Hp) (a : Addr) (xs : List V) : Prop := match k with | .t => SqT K H a xs | .l => SqL K H a xs
theorem sq_inv {X : Cx} {pins : List (Addr × Obj)} {σ : L2.St} {H : Hp} {s : Shared} {k : Kd} {a : Addr} {xs : List V} (I : Inv X pins σ H s) (h : SqK X.K k H a xs) : ∃ its, Vals xs its ∧ IsSq k s.heap a its.toArray ∧ xs.length ≤ sizeLine := by
  cases k
  · obtain ⟨its, rv, p, hz⟩ := I.tuple h
    exact ⟨its, rv, p, hz⟩
  · obtain ⟨its, rv, p, hz⟩ := I.list h
    exact ⟨its, rv, p.isList, hz⟩
theorem sq_inj {X : Cx} {pins : List (Addr × Obj)} {σ : L2.St} {H : Hp} {s : Shared} {k : Kd} {a : Addr} {xs ys : List V} (I : Inv X pins σ H s) (h : SqK X.K k H a xs) (h' : SqK X.K k H a ys) : xs = ys := by
  cases k
  · exact I.tuple_inj h h'
  · exact I.list_inj h h'
/-- new tuples, one behind the other -/
def lay (H : Hp) : List (Addr × List V) → Hp
  | [] => H
  | q :: r => upd (lay H r) q.1 (.tup q.2)
theorem lay_out {H : Hp} {b : Addr} : ∀ {l : List (Addr × List V)}, (∀ q ∈ l, q.1 ≠ b) → lay H l b = H b
  | [], _ => rfl
  | q :: r, h => by
    show upd (lay H r) q.1 (.tup q.2) b = H b
    rw [upd_ne (Ne.symm (h q (by simp)))]
    exact lay_out fun q' hq => h q' (by simp [hq])
theorem lay_in {H : Hp} {T : Addr} {vs : List V} : ∀ {l : List (Addr × List V)}, (l.map (·.1)).Nodup → (T, vs) ∈ l → lay H l T = some (.tup vs)
  | q :: r, hn, hm => by
    show upd (lay H r) q.1 (.tup q.2) T = _
    rw [List.map_cons, List.nodup_cons] at hn
    rcases List.mem_cons.mp hm with e | e
    · subst e
      exact upd_same
    · have : T ≠ q.1 := fun z => hn.1 (z ▸ List.mem_map.mpr ⟨_, e, rfl⟩)
      rw [upd_ne this]
      exact lay_in hn.2 e
theorem lay_some {H : Hp} {b : Addr} {u : HO} : ∀ {l : List (Addr × List V)}, lay H l b = some u → (∃ q ∈ l, q.1 = b ∧ u = .tup q.2) ∨ H b = some u
  | [], h => .inr h
  | q :: r, h => by
    by_cases e : b = q.1
    · subst e
      have h' : upd (lay H r) q.1 (.tup q.2) q.1 = some u := h
      rw [upd_same] at h'
      exact .inl ⟨q, by simp, rfl, (Option.some.inj h').symm⟩
    · have h' : upd (lay H r) q.1 (.tup q.2) b = some u := h
      rw [upd_ne e] at h'
      rcases lay_some h' with ⟨q', m, z⟩ | z
      · exact .inl ⟨q', by simp [m], z⟩
      · exact .inr z
section
variable {X : Cx} {pins : List (Addr × Obj)} {σ : List (Option V)} {H H' : Hp} {s : Shared} {h' : Heap}
theorem turnedMany {t' : Nat} {ch : List Addr} (I : Inv X pins σ H s) (k : ∀ b o, b ∉ ch → s.heap.get? b = some o → h'.get? b = some o) (hf : ∀ b ∈ ch, FpOk X pins H b)
    (g : ∀ b u, H b = some u → H' b = some u) (nw : ∀ b u, H' b = some u → H b = some u ∨ (s.heap.objs.size ≤ b ∧ ObjOk X.prog X.w H' h' b u)) : Inv X pins σ H' { s with heap := h', toks := t' } := by
  have nit : ∀ b u, H b = some u → b ∉ ch := fun b u e z => by
    have q := (hf b z).1
    rw [q] at e; cases e
  refine I.step (g' := s.gens) (d' := s.drawn) (ch := ch) (fun b hb => ⟨(hf b hb).2.2.2.1, (hf b hb).2.1, (hf b hb).2.2.2.2.1, (hf b hb).2.2.2.2.2⟩) (fun b o _ _ hc e _ => k b o hc e) (fun b o _ _ hc e _ => ⟨o.slots, k b o hc e⟩)
    (fun b o _ e n => ?_) (fun b o hc e => ⟨o, k b o hc e⟩) (fun b xs e => ?_) (fun b o u e => ?_) (fun b ps e => ⟨#[], ?_⟩) (fun m hm => ?_) (fun b u e => ?_) I.bare
  · cases z : H' b with
    | none => rfl
    | some u =>
      rcases nw b u z with y | ⟨y, _⟩
      · rw [n] at y; cases y
      · exact absurd (Heap.lt_size e) (Nat.not_lt.mpr y)
  · exact g _ _ e
  · exact g _ _ e
  · rw [g _ _ e]; simp
  · obtain ⟨o, es, ep, ho, r⟩ := hm
    exact ⟨o, es, ep, k _ o (fun z => (hf _ z).2.1 rfl) ho, r⟩
  · rcases nw b u e with y | ⟨_, y⟩
    · refine (I.hok b u y).stay (fun c v hc q => k c v ?_ q) (fun c q => g _ _ q) fun c xs q => g _ _ q
      rcases hc with z | z
      · rw [z]; exact nit b u y
      · exact nit c _ z
    · exact y
end
def backA : Value → Addr
  | .ref a => a
  | _ => 0
/-- list(zip(t, xs)): a new list of new pairs -/
def tListZip (K : PySem.W.Frag) (ta : TA) : TE := fun σ H Q => ta σ H fun vs H1 => ∃ (kd1 kd2 : Kd) (a b : Addr) (xs ys : List V), vs = [.ref a, .ref b] ∧ SqK K kd1 H1 a xs ∧ SqK K kd2 H1 b ys ∧ xs.length ≤ ys.length ∧
  ∀ H2 q (Ts : List Addr), (∀ b u, H1 b = some u → H2 b = some u) → H1 q = none → H2 q = some (.lst (Ts.map V.ref)) → Ts.length = xs.length → (∀ (j : Nat) (T : Addr), Ts[j]? = some T → ∃ x y, xs[j]? = some x ∧ ys[j]? = some y ∧ H1 T = none ∧ H2 T = some (.tup [x, y])) → Q (.ref q) H2
section
variable {X : Cx}
theorem pe_listZip {e e2 : Expr} {ta : TA} {p p2 pos pos2 : Pos} (hc : X.calm = true) (hg : Gl X "list") (hm : X.mg "list" = none) (hg2 : Gl X "zip") (hm2 : X.mg "zip" = none) (ha : PA X [e, e2] ta)
    (hs : starEach [e, e2] X.env = (false, eval e X.env) :: starEach [e2] X.env := by rfl) (hpl : (backTo pos2 (starEach [e2] X.env)).any (·.1) = false := by rfl)
    (hs2 : starEach [.Call (.Name "zip" p2) [e, e2] [] pos2] X.env = (false, eval (.Call (.Name "zip" p2) [e, e2] [] pos2) X.env) :: starEach [] X.env := by rfl) :
    PE X (.Call (.Name "list" p) [.Call (.Name "zip" p2) [e, e2] [] pos2] [] pos) (tListZip X.K ta) := by
  refine ⟨fun pins s σ H Q I h => ?_⟩
  refine Call_ (ld_blt I hg hm boot_list (PyProof.Rows.callWith_type1 (args_cons (Call_ (ld_blt I hg2 hm2 PyProof.Rows.boot_zip (PyProof.Rows.callWith_type1 (thn (ha.run pos2 pins s σ H _ I h) fun us s1 ⟨vs, H1, I1, r1, q1⟩ => ?_) hs hpl))) hs2) hs2 rfl))
  obtain ⟨kd1, kd2, a, b, xs, ys, ex, hqx, hqy, hl, q⟩ := q1
  subst ex
  cases r1 with
  | cons r rr =>
    cases rr with
    | cons r' rr =>
      cases rr
      cases r
      cases r'
      obtain ⟨its, rv, p1, hz1⟩ := sq_inv I1 hqx
      obtain ⟨its2, rv2, p2, hz2⟩ := sq_inv I1 hqy
      obtain ⟨o1, ho1⟩ := p1.ex
      obtain ⟨o2, ho2⟩ := p2.ex
      have lx := rv.length
      have ly := rv2.length
      have hlt2 : b < s1.heap.objs.size := Heap.lt_size ho2
      have D := PySem.W.ktu_apart s1.heap.objs.size a b (Heap.lt_size ho1) hlt2
      refine call_zip (s := s1) p1 p2 fun h' hz hTI hTO h1 h2 hsz hk => args_nil ?_
      have I2 : Inv X pins σ H1 { s1 with heap := h' } := I1.kept (t' := s1.toks) hk
      have fresh : ∀ c, s1.heap.objs.size ≤ c → FpOk X pins H1 c := fun c hle => I1.fpOk hle (I1.hok.fresh hle)
      have p1' : IsSq kd1 h' a its.toArray := p1.at fun o => hk _ o
      have p2' : IsSq kd2 h' b its2.toArray := p2.at fun o => hk _ o
      refine call_list_zip (s := { s1 with heap := h' }) (I1.ok.hd hc) D (by simp only [List.size_toArray]; omega) (by rw [List.size_toArray]; omega) hz hTI hTO h1 h2 p1' p2' fun h'' acc c' hk2 hS hsz2 hinj hm => ?_
      have hsz2 : acc.size = its.length := by rw [hsz2, List.size_toArray]
      have item : ∀ j, j < xs.length → ∃ (T : Addr) (x y : V) (u v : Value), acc[j]? = some (Value.ref T) ∧ xs[j]? = some x ∧ ys[j]? = some y ∧ RelV x u ∧ RelV y v ∧ IsPair h'' T u v ∧ h'.objs.size < T := fun j hj => by
        have hja : j < acc.size := by omega
        obtain ⟨T, u, v, e1, e2, e3, e4, e5, _⟩ := hm j _ (Array.getElem?_eq_getElem hja)
        obtain ⟨u', hu1, hu2⟩ := rv.get (List.getElem?_eq_getElem hj)
        obtain ⟨v', hv1, hv2⟩ := rv2.get (List.getElem?_eq_getElem (l := ys) (i := j) (by omega))
        have e2' : its[j]? = some u := by simpa using e2
        have e3' : its2[j]? = some v := by simpa using e3
        rw [hu1] at e2'
        rw [hv1] at e3'
        obtain rfl := Option.some.inj e2'
        obtain rfl := Option.some.inj e3'
        exact ⟨T, _, _, _, _, by rw [Array.getElem?_eq_getElem hja, e1], List.getElem?_eq_getElem hj, List.getElem?_eq_getElem (by omega), hu2, hv2, e4, e5⟩
      have htl : acc.toList.length = xs.length := by rw [Array.length_toList]; omega
      have hrefs : ∀ u ∈ acc.toList, ∃ a, u = Value.ref a := fun u hu => by
        obtain ⟨j, hj, e⟩ := List.mem_iff_getElem.mp hu
        obtain ⟨T, _, _, _, _, e1, _⟩ := item j (by omega)
        refine ⟨T, ?_⟩
        rw [← Array.getElem?_toList, List.getElem?_eq_getElem hj, e] at e1
        exact Option.some.inj e1
      let Ts : List Addr := acc.toList.map backA
      have hTs : Ts.map V.ref = acc.toList.map backV := by
        show (acc.toList.map backA).map V.ref = _
        rw [List.map_map]
        refine List.map_congr_left fun u hu => ?_
        obtain ⟨a, rfl⟩ := hrefs u hu
        rfl
      have hTl : Ts.length = xs.length := by show (acc.toList.map backA).length = _; rw [List.length_map, htl]
      have getT : ∀ {j : Nat} {T : Addr}, Ts[j]? = some T → acc[j]? = some (Value.ref T) := fun {j T} e => by
        have e' : (acc.toList.map backA)[j]? = some T := e
        rw [List.getElem?_map] at e'
        cases y : acc.toList[j]? with
        | none => rw [y] at e'; cases e'
        | some u =>
          rw [y] at e'
          obtain ⟨a, rfl⟩ := hrefs u (List.mem_of_getElem? y)
          obtain rfl : a = T := Option.some.inj e'
          rw [← Array.getElem?_toList, y]
      have hnd : Ts.Nodup := by
        refine List.pairwise_iff_getElem.mpr fun i j hi hj hij e => ?_
        have e1 := getT (List.getElem?_eq_getElem hi)
        have e2 : acc[j]? = some (Value.ref Ts[i]) := getT (by rw [e, List.getElem?_eq_getElem hj])
        exact absurd (hinj i j _ e1 e2) (by omega)
      let prs : List (List V) := (xs.zip ys).map fun q => [q.1, q.2]
      have hpl : prs.length = xs.length := by show ((xs.zip ys).map fun q => [q.1, q.2]).length = _; rw [List.length_map, List.length_zip]; omega
      let L := Ts.zip prs
      have hL1 : L.map (·.1) = Ts := by
        show (Ts.zip prs).map Prod.fst = Ts
        rw [List.map_fst_zip]
        omega
      have getL : ∀ q ∈ L, ∃ (j : Nat) (x y : V) (u v : Value), Ts[j]? = some q.1 ∧ xs[j]? = some x ∧ ys[j]? = some y ∧ q.2 = [x, y] ∧ RelV x u ∧ RelV y v ∧ IsPair h'' q.1 u v ∧ h'.objs.size < q.1 := fun q hq => by
        obtain ⟨j, hj, e⟩ := List.mem_iff_getElem.mp hq
        have hj1 : j < Ts.length := by have z : j < (Ts.zip prs).length := hj; rw [List.length_zip] at z; omega
        have hj2 : j < prs.length := by omega
        have hj3 : j < xs.length := by omega
        have e' : (Ts[j], prs[j]) = q := by
          rw [← e]
          exact (List.getElem_zip (h := hj)).symm
        obtain ⟨T, x, y, u, v, e1, e2, e3, e4, e5, e6, e7⟩ := item j hj3
        have e8 := getT (List.getElem?_eq_getElem hj1)
        rw [e1] at e8
        obtain rfl : T = Ts[j] := Value.ref.inj (Option.some.inj e8)
        refine ⟨j, x, y, u, v, by rw [← e', List.getElem?_eq_getElem hj1], e2, e3, ?_, e4, e5, by rw [← e']; exact e6, by rw [← e']; exact e7⟩
        rw [← e']
        show prs[j] = [x, y]
        have hj4 : j < ys.length := by omega
        rw [List.getElem?_eq_getElem hj3] at e2
        rw [List.getElem?_eq_getElem hj4] at e3
        have e9 : prs[j] = [xs[j], ys[j]] := by
          show ((xs.zip ys).map fun q => [q.1, q.2])[j] = _
          rw [List.getElem_map, List.getElem_zip]
        rw [e9, Option.some.inj e2, Option.some.inj e3]
      have hSfresh : H1 h'.objs.size = none := I1.hok.fresh (by omega)
      let H2 : Hp := upd (lay H1 L) h'.objs.size (.lst (Ts.map V.ref))
      have neS : ∀ q ∈ L, q.1 ≠ h'.objs.size := fun q hq => by
        obtain ⟨_, _, _, _, _, _, _, _, _, _, _, _, z⟩ := getL q hq
        exact Nat.ne_of_gt z
      have g : ∀ b u, H1 b = some u → H2 b = some u := fun b u e => by
        have hb : b < s1.heap.objs.size := (I1.hok b u e).lt
        show upd (lay H1 L) h'.objs.size _ b = _
        have hb2 : b < h'.objs.size := Nat.lt_of_lt_of_le hb (by show s1.heap.objs.size ≤ h'.objs.size; rw [hsz]; exact Nat.le_add_right _ _)
        rw [upd_ne (Nat.ne_of_lt hb2), lay_out, e]
        intro q hq z
        obtain ⟨_, _, _, _, _, _, _, _, _, _, _, _, y⟩ := getL q hq
        rw [z] at y
        exact absurd (Nat.lt_trans hb2 y) (Nat.lt_irrefl _)
      have eT : ∀ q ∈ L, H2 q.1 = some (.tup q.2) := fun q hq => by
        show upd (lay H1 L) h'.objs.size _ q.1 = _
        rw [upd_ne (neS q hq)]
        exact lay_in (by rw [hL1]; exact hnd) hq
      have eS : H2 h'.objs.size = some (.lst (Ts.map V.ref)) := upd_same
      refine ⟨.ref _, H2, turnedMany I2 (t' := s1.toks) (ch := [s1.heap.objs.size + 4, s1.heap.objs.size + 3, s1.heap.objs.size, s1.heap.objs.size + 1]) (fun c o hb e => hk2 c o (fun z => hb (by simp [z])) (fun z => hb (by simp [z])) (fun z => hb (by simp [z])) (fun z => hb (by simp [z])) e)
        (fun c hcm => fresh c ?_) g (fun c u e => ?_), rfl, q H2 _ Ts g hSfresh eS hTl fun j T hT => ?_⟩
      · have e' : c = s1.heap.objs.size + 4 ∨ c = s1.heap.objs.size + 3 ∨ c = s1.heap.objs.size ∨ c = s1.heap.objs.size + 1 := by simpa using hcm
        rcases e' with z | z | z | z <;> rw [z] <;> first | exact Nat.le_add_right _ _ | exact Nat.le_refl _
      · by_cases hcS : c = h'.objs.size
        · subst hcS
          rw [eS] at e
          obtain rfl := Option.some.inj e
          refine .inr ⟨Nat.le_refl _, by rw [List.length_map, hTl]; exact hz1, acc.toList, c', by rw [hTs]; exact vals_back hrefs, ?_⟩
          rw [Array.toArray_toList]
          exact hS
        · have e' : lay H1 L c = some u := by
            have z : upd (lay H1 L) h'.objs.size (.lst (Ts.map V.ref)) c = some u := e
            rwa [upd_ne hcS] at z
          rcases lay_some e' with ⟨q, hq, rfl, rfl⟩ | z
          · obtain ⟨j, x, y, u, v, _, _, _, e4, e5, e6, e7, e8⟩ := getL q hq
            refine .inr ⟨Nat.le_of_lt e8, ?_⟩
            rw [e4]
            exact ⟨by show 2 ≤ sizeLine; decide, [u, v], .cons e5 (.cons e6 .nil), ⟨_, e7, rfl, _, rfl⟩⟩
          · exact .inl z
      · have hj : j < Ts.length := (List.getElem?_eq_some_iff.mp hT).1
        have hmem : (T, prs[j]) ∈ L := by
          have hjL : j < L.length := by show j < (Ts.zip prs).length; rw [List.length_zip]; omega
          have z : L[j] = (Ts[j], prs[j]) := List.getElem_zip
          rw [List.getElem?_eq_getElem hj] at hT
          rw [← Option.some.inj hT, ← z]
          exact List.getElem_mem hjL
        obtain ⟨k, x, y, u, v, e1, e2, e3, e4, _, _, _, e8⟩ := getL _ hmem
        have hkj : k = j := by
          have hk : k < Ts.length := (List.getElem?_eq_some_iff.mp e1).1
          exact hinj k j _ (getT e1) (getT hT)
        subst hkj
        refine ⟨x, y, e2, e3, I1.hok.fresh (Nat.le_of_lt (Nat.lt_of_le_of_lt (by show s1.heap.objs.size ≤ h'.objs.size; rw [hsz]; exact Nat.le_add_right _ _) e8)), ?_⟩
        have z := eT _ hmem
        rw [e4] at z
        exact z
end
end XZ2

set_option Elab.async false
set_option linter.all false
set_option maxRecDepth 100000
set_option maxHeartbeats 1000000
namespace XZ2
open PySem PySem.Spec PyProof.Rows RZ L2
section
variable {kd1 kd2 : Kd} {prog : Program} {w : World} {A : Around} {E : Value → Shared → Prop} {s : Shared}
theorem pyNext_item {z TI TO i1 i2 l1 l2 : Addr} {k1 k2 : Nat} {xs ys : Array Value} {x y a b : Value} {Q : Option Value → Shared → Prop} (D : ZipApart z TI TO i1 i2 l1 l2)
    (hz : IsZip s.heap z TI TO .none) (hTI : IsPair s.heap TI (.ref i1) (.ref i2)) (hTO : IsPair s.heap TO a b)
    (h1 : IsIt kd1 s.heap i1 l1 k1) (h2 : IsIt kd2 s.heap i2 l2 k2) (hl1 : IsSq kd1 s.heap l1 xs) (hl2 : IsSq kd2 s.heap l2 ys) (hx : xs[k1]? = some x) (hy : ys[k2]? = some y)
    (hQ : ∀ h', IsZip h' z TI TO (rawInt s.heap.objs.size) → IsPair h' TO x y → IsIt kd1 h' i1 l1 (k1 + 1) → IsIt kd2 h' i2 l2 (k2 + 1) → IsPair h' s.heap.objs.size x y →
      (∀ c o, c ≠ z → c ≠ TO → c ≠ i1 → c ≠ i2 → s.heap.get? c = some o → h'.get? c = some o) → Q (some (.ref s.heap.objs.size)) { s with heap := h' }) :
    wpAny (model prog w) A (pyNext (.ref z)) Q E s := by
  have hT : s.TypeIs (.ref z) "zip" := ⟨_, hz, rfl⟩
  unfold pyNext
  exact wpAny_bind (wpAny_attempt (wpAny_callSpecial?_slot (name := Str.ofString "__next__") hT F.slot_zip_next
    (wpAny_call_entry F.slot_zip_next hT F.entry_zip_next
      (next_free D hz hTI hTO h1 h2 hl1 hl2 hx hy fun h' a1 a2 a3 a4 a5 a7 => wpAny_pure (hQ h' a1 a2 a3 a4 a5 a7)) (F.args_zip_next_1 _))))
theorem pyNext_end {z TI TO i1 i2 l1 l2 : Addr} {k1 : Nat} {xs : Array Value} {a b : Value} {Q : Option Value → Shared → Prop} (hh : A.handled = none) (D : ZipApart z TI TO i1 i2 l1 l2)
    (hz : IsZip s.heap z TI TO .none) (hTI : IsPair s.heap TI (.ref i1) (.ref i2)) (hTO : IsPair s.heap TO a b)
    (h1 : IsIt kd1 s.heap i1 l1 k1) (hl1 : IsSq kd1 s.heap l1 xs) (hend : xs[k1]? = none)
    (hQ : ∀ h', (∀ c o, c ≠ z → c ≠ i1 → s.heap.get? c = some o → h'.get? c = some o) → Q none { s with heap := h' }) : wpAny (model prog w) A (pyNext (.ref z)) Q E s := by
  have hT : s.TypeIs (.ref z) "zip" := ⟨_, hz, rfl⟩
  unfold pyNext
  refine wpAny_bind (wpAny_attempt (wpAny_callSpecial?_slot (name := Str.ofString "__next__") hT F.slot_zip_next
    (wpAny_call_entry F.slot_zip_next hT F.entry_zip_next (end_free hh D hz hTI hTO h1 hl1 hend fun h' e hk he => ?_) (F.args_zip_next_1 _))))
  obtain ⟨o, ho, hc⟩ := he
  refine wpAny_bind (wpAny_isInstance (T := "StopIteration") (b := true) ⟨o, ho, hc⟩ isSubtype_stop ?_)
  exact wpAny_pure (hQ _ hk)
end
def Itz2 (K : PySem.W.Frag) (k1 k2 : Kd) (a b : Addr) : It :=
  ⟨fun i H => ∃ (xs ys : List V) (x y : V), SqK K k1 H a xs ∧ SqK K k2 H b ys ∧ xs[i]? = some x ∧ ys[i]? = some y,
    fun i H v H' => ∃ T x y, v = .ref T ∧ H T = none ∧ H' = upd H T (.tup [x, y]) ∧ (∀ xs, SqK K k1 H a xs → xs[i]? = some x) ∧ ∀ ys, SqK K k2 H b ys → ys[i]? = some y,
    fun i H => ∃ xs : List V, SqK K k1 H a xs ∧ xs.length ≤ i⟩
theorem turn_zip2 {P : Program} {w : World} {K : PySem.W.Frag} {elts : List Expr} {kk : Nat} {tpos : Pos} {kd1 kd2 : Kd} {a b z TI TO i1 i2 : Addr} (D : ZipApart z TI TO i1 i2 a b) :
    Turn P w K (.Tuple elts kk tpos) (Itz2 K kd1 kd2 a b) [z, TI, TO, i1, i2] z (fun i h => IsZip h z TI TO .none ∧ IsPair h TI (.ref i1) (.ref i2) ∧ (∃ x y, IsPair h TO x y) ∧ IsIt kd1 h i1 a i ∧ IsIt kd2 h i2 b i) where
  mem := by simp
  obj := fun i h st c hc => by
    obtain ⟨hz, hTI, ⟨x, y, hTO⟩, h1, h2⟩ := st
    have e' : c = z ∨ c = TI ∨ c = TO ∨ c = i1 ∨ c = i2 := by simpa using hc
    rcases e' with q | q | q | q | q
    · rw [q]; exact ⟨_, hz, fun v q => nomatch q⟩
    · rw [q]; exact ⟨_, hTI, fun v q => nomatch q⟩
    · rw [q]; exact ⟨_, hTO, fun v q => nomatch q⟩
    · rw [q]
      cases kd1
      · obtain ⟨o1, e1, _, d1⟩ := h1; exact ⟨o1, e1, fun v q => by rw [d1] at q; cases q⟩
      · obtain ⟨o1, e1, _, d1⟩ := h1; exact ⟨o1, e1, fun v q => by rw [d1] at q; cases q⟩
    · rw [q]
      cases kd2
      · obtain ⟨o2, e2, _, d2⟩ := h2; exact ⟨o2, e2, fun v q => by rw [d2] at q; cases q⟩
      · obtain ⟨o2, e2, _, d2⟩ := h2; exact ⟨o2, e2, fun v q => by rw [d2] at q; cases q⟩
  keep := fun i h h' st k => by
    obtain ⟨hz, hTI, ⟨x, y, hTO⟩, h1, h2⟩ := st
    exact ⟨k z (by simp) _ hz, k TI (by simp) _ hTI, ⟨x, y, k TO (by simp) _ hTO⟩, h1.at fun o q => k i1 (by simp) o q, h2.at fun o q => k i2 (by simp) o q⟩
  item := by
    intro X hP hw hK hc i pins s σ H E I hf st hg
    subst hP hw hK
    obtain ⟨hz, hTI, ⟨x0, y0, hTO⟩, h1, h2⟩ := st
    obtain ⟨xs, ys, x, y, hqx, hqy, hx, hy⟩ := hg
    obtain ⟨its, rv, p, _⟩ := sq_inv I hqx
    obtain ⟨its2, rv2, p2, _⟩ := sq_inv I hqy
    obtain ⟨u, hu, ru⟩ := rv.get hx
    obtain ⟨u2, hu2, ru2⟩ := rv2.get hy
    have hzl : z < s.heap.objs.size := Heap.lt_size hz
    refine pyNext_item D hz hTI hTO h1 h2 p p2 (x := u) (y := u2) (by simpa using hu) (by simpa using hu2) fun h' z' TO' h1' h2' hT hk => ?_
    refine ⟨_, rfl, wpAny_letOwnedTupleGo_zip (s := { s with heap := h' }) z' fun h'' z'' sb => ?_⟩
    have hT2 : h''.get? s.heap.objs.size = some { cls := .type "tuple", data := .seq #[u, u2] } := (sb.2 _ (Nat.ne_of_gt hzl)).trans hT
    have new : ObjOk X.prog X.w (upd H s.heap.objs.size (.tup [x, y])) h'' s.heap.objs.size (.tup [x, y]) :=
      ⟨by show 2 ≤ sizeLine; decide, [u, u2], .cons ru (.cons ru2 .nil), ⟨_, hT2, rfl, _, rfl⟩⟩
    have I1 : Inv X pins σ (upd H s.heap.objs.size (.tup [x, y])) { s with heap := h'' } :=
      I.turnedNew (t' := s.toks) (ch := [z, TI, TO, i1, i2]) (fun c o hb q => (sb.2 c (fun q' => hb (by simp [q']))).trans (hk c o (fun q' => hb (by simp [q'])) (fun q' => hb (by simp [q'])) (fun q' => hb (by simp [q'])) (fun q' => hb (by simp [q'])) q)) hf (Nat.le_refl _) new
    refine ⟨.ref s.heap.objs.size, _, I1, rfl, ⟨_, x, y, rfl, I.hok.fresh (Nat.le_refl _), rfl, fun l hl => by rw [sq_inj I hl hqx]; exact hx, fun l hl => by rw [sq_inj I hl hqy]; exact hy⟩, ⟨z'', ?_, ⟨u, u2, ?_⟩, ?_, ?_⟩, fun c hcm => ?_⟩
    · exact (sb.2 _ D.TIz).trans (hk _ _ D.TIz D.TITO D.TIi1 D.TIi2 hTI)
    · exact (sb.2 _ D.TOz).trans TO'
    · exact h1'.at fun o q => (sb.2 _ D.i1z).trans q
    · exact h2'.at fun o q => (sb.2 _ D.i2z).trans q
    · have hlt : c < s.heap.objs.size := by
        have e' : c = z ∨ c = TI ∨ c = TO ∨ c = i1 ∨ c = i2 := by simpa using hcm
        rcases e' with q | q | q | q | q
        · rw [q]; exact hzl
        · rw [q]; exact Heap.lt_size hTI
        · rw [q]; exact Heap.lt_size hTO
        · rw [q]; obtain ⟨_, e1⟩ := h1.ex; exact Heap.lt_size e1
        · rw [q]; obtain ⟨_, e2⟩ := h2.ex; exact Heap.lt_size e2
      rw [upd_ne (Nat.ne_of_lt hlt)]
      exact (hf c hcm).1
  done := by
    intro X hP hw hK hc i pins s σ H E I hf st hg
    subst hP hw hK
    obtain ⟨hz, hTI, ⟨x0, y0, hTO⟩, h1, h2⟩ := st
    obtain ⟨xs, hqx, hend⟩ := hg
    obtain ⟨its, rv, p, _⟩ := sq_inv I hqx
    have l1 := rv.length
    have he : its.toArray[i]? = none := by simp; omega
    exact pyNext_end (I.ok.hd hc) D hz hTI hTO h1 p he fun h' hk => ⟨rfl, I.turnedL (t' := s.toks) (ch := [z, TI, TO, i1, i2]) (fun c o hb q =>
      hk c o (fun q' => hb (by simp [q'])) (fun q' => hb (by simp [q'])) q) hf⟩
  self := fun A i s Q E st h => wpAny_pyIter_zip st.1 h
def iZip2 (K : PySem.W.Frag) (ta : TA) : TI := fun σ H R => ta σ H fun vs H1 => ∃ k1 k2 a b xs ys, vs = [.ref a, .ref b] ∧ SqK K k1 H1 a xs ∧ SqK K k2 H1 b ys ∧ R (Itz2 K k1 k2 a b) H1
theorem pi_zip2 {X : Cx} {e e2 : Expr} {ta : TA} {p pos tpos : Pos} {elts : List Expr} {kk : Nat} (hg : Gl X "zip") (hm : X.mg "zip" = none) (ha : PA X [e, e2] ta)
    (hs : starEach [e, e2] X.env = (false, eval e X.env) :: starEach [e2] X.env := by rfl) (hpl : (backTo pos (starEach [e2] X.env)).any (·.1) = false := by rfl) :
    PI X (.Tuple elts kk tpos) (.Call (.Name "zip" p) [e, e2] [] pos) (iZip2 X.K ta) := by
  refine ⟨fun pins s σ H R I h => ?_⟩
  refine Call_ (ld_blt I hg hm PyProof.Rows.boot_zip (PyProof.Rows.callWith_type1 (thn (ha.run pos pins s σ H _ I h) fun us s1 ⟨vs, H1, I1, r1, q1⟩ => ?_) hs hpl))
  obtain ⟨k1, k2, a, b, xs, ys, ex, hqx, hqy, q⟩ := q1
  subst ex
  cases r1 with
  | cons r rr =>
    cases rr with
    | cons r' rr =>
      cases rr
      cases r
      cases r'
      have fresh5 : ∀ c, c ∈ [s1.heap.objs.size + 4, s1.heap.objs.size + 2, s1.heap.objs.size + 3, s1.heap.objs.size, s1.heap.objs.size + 1] → FpOk X pins H1 c := fun c hcm => by
        have e' : c = s1.heap.objs.size + 4 ∨ c = s1.heap.objs.size + 2 ∨ c = s1.heap.objs.size + 3 ∨ c = s1.heap.objs.size ∨ c = s1.heap.objs.size + 1 := by simpa using hcm
        have hle : s1.heap.objs.size ≤ c := by
          rcases e' with z | z | z | z | z
          · rw [z]; exact Nat.le_add_right _ _
          · rw [z]; exact Nat.le_add_right _ _
          · rw [z]; exact Nat.le_add_right _ _
          · rw [z]; exact Nat.le_refl _
          · rw [z]; exact Nat.le_add_right _ _
        exact I1.fpOk hle (I1.hok.fresh hle)
      obtain ⟨its, rv, p1, _⟩ := sq_inv I1 hqx
      obtain ⟨its2, rv2, p2, _⟩ := sq_inv I1 hqy
      obtain ⟨o1, ho1⟩ := p1.ex
      obtain ⟨o2, ho2⟩ := p2.ex
      refine call_zip (s := s1) p1 p2 fun h' hz hTI hTO h1 h2 hsz hk => wpAny_pyIter_zip hz ?_
      have I2 : Inv X pins σ H1 { s1 with heap := h' } := I1.kept (t' := s1.toks) hk
      exact ⟨s1.heap.objs.size + 4, [s1.heap.objs.size + 4, s1.heap.objs.size + 2, s1.heap.objs.size + 3, s1.heap.objs.size, s1.heap.objs.size + 1], _, _, H1, rfl, I2, turn_zip2 (PySem.W.ktu_apart s1.heap.objs.size a b (Heap.lt_size ho1) (Heap.lt_size ho2)), ⟨hz, hTI, ⟨_, _, hTO⟩, h1, h2⟩, fresh5, q⟩
theorem walk_z2 {K : PySem.W.Frag} {k1 k2 : Kd} {a b : Addr} {n : Nat} : Walk (Itz2 K k1 k2 a b) n (fun H => ∃ xs ys, SqK K k1 H a xs ∧ SqK K k2 H b ys ∧ xs.length = n ∧ n ≤ ys.length) (Itz2 K k1 k2 a b).yld :=
  ⟨fun i H hi ⟨xs, ys, h1, h2, e1, e2⟩ => ⟨xs, ys, xs[i]'(by omega), ys[i]'(by omega), h1, h2, List.getElem?_eq_getElem (by omega), List.getElem?_eq_getElem (by omega)⟩, fun H ⟨xs, ys, h1, h2, e1, e2⟩ => ⟨xs, h1, by omega⟩, fun _ _ _ _ _ _ y => y⟩
end XZ2

set_option Elab.async false
set_option linter.all false
set_option maxRecDepth 100000
set_option maxHeartbeats 2000000
namespace Y
open PySem PySem.Spec PyProof.Rows L2 StX XZ2
variable {w : World} [Tb w]
section
variable {K : PySem.W.Frag} {X : Cx} {E : XK}
variable {Φ : Phi} {B : Hp} {α : List Addr} {H : Hp} {σ : L2.St} {ρ : Env} {ω : Sto} {T : List (V × S)}
/-- many new objects, some of which stay -/
theorem StB.grow (s : StB Φ K B α H σ ρ ω T) {H2 : Hp} (g : Same H H2) (N : Addr → Prop) (hN : ∀ a, N a → H a = none) : ∃ B2, StB Φ K B2 α H2 σ ρ ω T ∧ Same B B2 ∧ ∀ a, N a → B2 a = H2 a := by
  classical
  let B2 : Hp := fun a => if N a then H2 a else B a
  have e1 : ∀ a, N a → B2 a = H2 a := fun a h => if_pos h
  have e2 : ∀ a, ¬ N a → B2 a = B a := fun a h => if_neg h
  have out : ∀ a o, H a = some o → ¬ N a := fun a o e n => by rw [hN a n] at e; cases e
  have gB : Same B B2 := fun a o e => by rw [e2 a (out a o (s.fr.bh a o e))]; exact e
  refine ⟨B2, s.pureStep ⟨gB, fun a o e => ?_, fun b o _ e => .inl (g b o e), fun a o e => ?_, [], by simp, by simp⟩ fun p hp => ?_, gB, e1⟩
  · by_cases n : N a
    · rw [e1 a n] at e; exact e
    · rw [e2 a n] at e; exact g a o (s.fr.bh a o e)
  · by_cases n : N a
    · exact .inr (.inl (hN a n))
    · rw [e2 a n] at e; exact .inl ⟨o, e⟩
  · obtain ⟨n, h1, ps, h2, h3, h4⟩ := s.wd.tb p hp
    refine ⟨by simp, ?_, ps, g _ _ h2, h3, fun pos cv hc => ?_⟩
    · rw [e2 p.1 (out _ _ h2)]; exact h1
    · obtain ⟨c, e5, e6⟩ := h4 pos cv hc
      exact ⟨c, e5, gB _ _ e6⟩
theorem sqk {a : Addr} {xs : List V} (h : SqL K H a xs ∨ SqT K H a xs) : ∃ kd, SqK K kd H a xs := by
  rcases h with h | h
  · exact ⟨.l, h⟩
  · exact ⟨.t, h⟩
def zipP (a b : List D) : List D := (a.zip b).map fun p => .tup [p.1, p.2]
def zipD : CB := fun ss ω q => match ss with
  | [s1, s2] => sqOf s1 ω fun d1 => sqOf s2 ω fun d2 => d1.length ≤ d2.length ∧ q (.d (.lst (zipP d1 d2))) ω
  | _ => False
theorem rs_zip {B2 : Hp} : ∀ {Ts : List Addr} {xs ys : List V} {d1 d2 : List D}, Rs K B2 xs d1 → Rs K B2 ys d2 → d1.length ≤ d2.length → Ts.length = d1.length → (∀ (j : Nat) (T : Addr), Ts[j]? = some T → ∃ x y, xs[j]? = some x ∧ ys[j]? = some y ∧ B2 T = some (.tup [x, y])) → Rs K B2 (Ts.map V.ref) (zipP d1 d2)
  | [], _, _, [], _, _, _, _, _, _ => .nil
  | [], _, _, _ :: _, _, _, _, _, hl, _ => by simp at hl
  | _ :: _, _, _, [], _, _, _, _, hl, _ => by simp at hl
  | _ :: _, _, _, _ :: _, [], _, _, h, _, _ => by simp at h
  | T :: Ts, x :: xs, y :: ys, a :: d1, b :: d2, .cons r1 t1, .cons r2 t2, hl, hn, h => by
    obtain ⟨x', y', e1, e2, e3⟩ := h 0 T rfl
    cases e1
    cases e2
    exact .cons (.tup e3 (.cons r1 (.cons r2 .nil))) (rs_zip t1 t2 (by simpa using hl) (by simpa using hn) fun j T hj => h (j + 1) T (by simpa using hj))
theorem y_listZip {e e2 : Expr} {u : TAD} {p p2 pos pos2 : Pos} (b : Bu X.mg) (hc : X.calm = true) (ha : PAD X K E [e, e2] ht u) (hg : Gl X "list" := by rfl) (hg2 : Gl X "zip" := by rfl)
    (hs : starEach [e, e2] X.env = (false, eval e X.env) :: starEach [e2] X.env := by rfl) (hpl : (backTo pos2 (starEach [e2] X.env)).any (·.1) = false := by rfl)
    (hs2 : starEach [.Call (.Name "zip" p2) [e, e2] [] pos2] X.env = (false, eval (.Call (.Name "zip" p2) [e, e2] [] pos2) X.env) :: starEach [] X.env := by rfl) (hK : X.K = K := by rfl) :
    PD X K E (.Call (.Name "list" p) [.Call (.Name "zip" p2) [e, e2] [] pos2] [] pos) (XZ2.tListZip K ht) (dB zipD u) := by
  subst hK
  refine ⟨XZ2.pe_listZip hc hg b.list hg2 b.zip ha.p hs hpl hs2, fun Φ H σ ρ ω T q Q x s hx k h => ha.r Φ H σ ρ ω T _ _ x s hx (fun ss ω1 vs H1 h l ⟨B, α, sb⟩ => ?_) h⟩
  have pr := St.pair sb l
  unfold zipD at h
  split at h
  · obtain ⟨v1, v2, rfl, r1, r2⟩ := pair2 pr
    obtain ⟨a, xs, d1, rfl, hx1, rs1, h⟩ := sq_of sb r1 h
    obtain ⟨b', ys, d2, rfl, hx2, rs2, hl, h⟩ := sq_of sb r2 h
    obtain ⟨k1, hq1⟩ := sqk hx1
    obtain ⟨k2, hq2⟩ := sqk hx2
    refine ⟨k1, k2, a, b', xs, ys, rfl, hq1, hq2, by rw [rs1.len, rs2.len]; exact hl, fun H2 q2 Ts g hq hL hTl hT => ?_⟩
    obtain ⟨B2, sb2, gB, eB⟩ := sb.grow g (fun a => a = q2 ∨ ∃ j, Ts[j]? = some a) (fun a ha => by
      rcases ha with rfl | ⟨j, hj⟩
      · exact hq
      · obtain ⟨_, _, _, _, z, _⟩ := hT j a hj; exact z)
    refine k _ _ _ _ h (drop_mid (sb2.pushD (.lst ((eB q2 (.inl rfl)).trans hL) ?_)).st)
    refine rs_zip (rs1.mono gB) (rs2.mono gB) hl (by rw [hTl, rs1.len]) fun j T hj => ?_
    obtain ⟨x, y, e1, e2, _, e3⟩ := hT j T hj
    exact ⟨x, y, e1, e2, (eB T (.inr ⟨j, hj⟩)).trans e3⟩
  · exact h.elim
/-! ### for a, b in zip(xs, ys) -/
def SqIs (s : S) (ds : List D) (ω : Sto) : Prop := match s with
  | .pin j => ∃ ss, ω[j]? = some (.lst ss) ∧ allD ss = some ds
  | _ => True
theorem sq_is {s : S} {ω0 ω : Sto} {ds : List D} (h0 : sqOf s ω0 (· = ds)) (h : SqIs s ds ω) : sqOf s ω (· = ds) := by
  cases s with
  | d x =>
    cases x with
    | lst _ => exact h0
    | tup _ => exact h0
    | ktup _ => exact h0
    | _ => exact h0
  | pin j =>
    obtain ⟨ss, e1, e2⟩ := h
    show (match ω[j]? with | some (.lst ss) => allDk ss (· = ds) | _ => False)
    rw [e1]
    show allDk ss (· = ds)
    unfold allDk
    rw [e2]
theorem sq_mono {s : S} {ω : Sto} {k : List D → Prop} (h : sqOf s ω k) : ∃ ds, sqOf s ω (· = ds) ∧ SqIs s ds ω ∧ k ds := by
  unfold sqOf at h
  split at h
  · exact ⟨_, rfl, trivial, h⟩
  · exact ⟨_, rfl, trivial, h⟩
  · rename_i n1 n2
    unfold lstOf at h
    split at h
    · exact ⟨_, rfl, trivial, h⟩
    · rename_i j
      split at h
      · rename_i ss e
        unfold allDk at h
        split at h
        · rename_i ds e2
          refine ⟨ds, ?_, ⟨ss, e, e2⟩, h⟩
          show (match ω[j]? with | some (.lst ss) => allDk ss (· = ds) | _ => False)
          rw [e]
          show allDk ss (· = ds)
          unfold allDk
          rw [e2]
        · exact h.elim
      · exact h.elim
    · exact h.elim
def dZipI (u : TAD) : TID := fun ρ ω q x => u ρ ω (fun ss ω' => match ss with
  | [s1, s2] => sqOf s1 ω' fun d1 => sqOf s2 ω' fun d2 => d1.length ≤ d2.length ∧ q ((zipP d1 d2).map S.d) (fun ω'' => SqIs s1 d1 ω'' ∧ SqIs s2 d2 ω'') ω'
  | _ => False) x
theorem StB.sq {v : V} {s : S} {ds : List D} (sb : StB Φ K B α H σ ρ ω T) (r : RS K α B v s) (h : sqOf s ω (· = ds)) : ∃ a xs kd, v = .ref a ∧ SqK K kd H a xs ∧ Rs K B xs ds := by
  obtain ⟨a, xs, d, e, hx, rs, rfl⟩ := sq_of sb r h
  obtain ⟨kd, hk⟩ := sqk hx
  exact ⟨a, xs, kd, e, hk, rs⟩
theorem sqk_inj {H : Hp} {a : Addr} {k1 k2 : Kd} {xs ys : List V} (hc : k1 = k2) (h1 : SqK K k1 H a xs) (h2 : SqK K k2 H a ys) (f : ∀ {a xs ys}, SqL K H a xs → SqL K H a ys → xs = ys) (g : ∀ {a xs ys}, SqT K H a xs → SqT K H a ys → xs = ys) : xs = ys := by
  subst hc
  cases k1
  · exact g h1 h2
  · exact f h1 h2
/-- what stands as a list or a tuple, by one kind wherever it is looked at -/
def kdOf : S → Kd
  | .d (.tup _) => .t
  | .d (.ktup _) => .t
  | _ => .l
theorem StB.sq' {v : V} {s : S} {ds : List D} (sb : StB Φ K B α H σ ρ ω T) (r : RS K α B v s) (h : sqOf s ω (· = ds)) : ∃ a xs, v = .ref a ∧ SqK K (kdOf s) H a xs ∧ Rs K B xs ds := by
  unfold sqOf at h
  split at h
  · subst h
    obtain ⟨a, xs, e, ha, ra⟩ := r_tup r
    exact ⟨a, xs, e, SqT.of (sb.fr.bh _ _ ha), ra⟩
  · subst h
    obtain ⟨a, xs, e, ha, ra⟩ := r_ktup r
    exact ⟨a, xs, e, sameT sb.fr.bh ha, ra⟩
  · rename_i n1 n2
    obtain ⟨a, xs, d, e, hx, rs, rfl⟩ := lst_of sb r h
    refine ⟨a, xs, e, ?_, rs⟩
    have : kdOf s = .l := by
      unfold kdOf
      split
      · exact absurd rfl (n1 _)
      · exact absurd rfl (n2 _)
      · rfl
    rw [this]
    exact SqL.of hx
theorem it_zip {a b : Addr} {s1 s2 : S} {d1 d2 : List D} {ω0 : Sto} (h1 : sqOf s1 ω0 (· = d1)) (h2 : sqOf s2 ω0 (· = d2)) (hl : d1.length ≤ d2.length) :
    ItD K (Itz2 K (kdOf s1) (kdOf s2) a b) [(.ref a, s1), (.ref b, s2)] (fun ω => SqIs s1 d1 ω ∧ SqIs s2 d2 ω) ((zipP d1 d2).map S.d) := by
  have hn : ((zipP d1 d2).map S.d).length = d1.length := by simp [zipP, Nat.min_eq_left hl]
  refine ⟨_, _, by rw [hn]; exact walk_z2, fun Φ H σ ρ ω T st m hp => ?_⟩
  obtain ⟨B, α, sb⟩ := st
  obtain ⟨a', xs, e, hx, rx⟩ := sb.sq' (sb.tm (.ref a, s1) (m _ (by simp))) (sq_is h1 hp.1)
  cases e
  obtain ⟨b', ys, e, hy, ry⟩ := sb.sq' (sb.tm (.ref b, s2) (m _ (by simp))) (sq_is h2 hp.2)
  cases e
  refine ⟨⟨xs, ys, hx, hy, rx.len, by rw [ry.len]; exact hl⟩, fun i x H' hi y => ?_⟩
  rw [hn] at hi
  obtain ⟨T', u, v, rfl, hT, rfl, f1, f2⟩ := y
  obtain ⟨u', eu, ru⟩ := rx.get (List.getElem?_eq_getElem hi)
  obtain ⟨v', ev, rv⟩ := ry.get (List.getElem?_eq_getElem (l := d2) (i := i) (by omega))
  have z1 : u = u' := Option.some.inj ((f1 xs hx).symm.trans eu)
  have z2 : v = v' := Option.some.inj ((f2 ys hy).symm.trans ev)
  subst z1 z2
  refine ⟨.d (.tup [d1[i], d2[i]'(by omega)]), ?_, sb.tup hT (.cons ru (.cons rv .nil))⟩
  have hi2 : i < d2.length := by omega
  simp [zipP, List.getElem?_zip_eq_some, hi, hi2]
theorem yi_zip {e e2 : Expr} {u : TAD} {p pos tpos : Pos} {elts : List Expr} {kk : Nat} (b : Bu X.mg) (ha : PAD X K E [e, e2] ht u) (hg : Gl X "zip" := by rfl)
    (hs : starEach [e, e2] X.env = (false, eval e X.env) :: starEach [e2] X.env := by rfl) (hpl : (backTo pos (starEach [e2] X.env)).any (·.1) = false := by rfl) (hK : X.K = K := by rfl) :
    PID X K E (.Tuple elts kk tpos) (.Call (.Name "zip" p) [e, e2] [] pos) (iZip2 K ht) (dZipI u) := by
  subst hK
  refine ⟨pi_zip2 hg b.zip ha.p hs hpl, fun Φ H σ ρ ω T q Rr x s hx k h => ha.r Φ H σ ρ ω T _ _ x s hx (fun ss ω1 vs H1 h l ⟨B, α, sb⟩ => ?_) h⟩
  have pr := St.pair sb l
  split at h
  · rename_i s1 s2 _
    obtain ⟨v1, v2, rfl, r1, r2⟩ := pair2 pr
    obtain ⟨d1, h1, i1, h⟩ := sq_mono h
    obtain ⟨d2, h2, i2, hl, h⟩ := sq_mono h
    obtain ⟨a, xs, rfl, hx1, rs1⟩ := sb.sq' r1 h1
    obtain ⟨b', ys, rfl, hx2, rs2⟩ := sb.sq' r2 h2
    exact ⟨kdOf s1, kdOf s2, a, b', xs, ys, rfl, hx1, hx2, k _ _ _ _ _ [(.ref a, s1), (.ref b', s2)] h sb.st (it_zip h1 h2 hl)⟩
  · exact h.elim
/-! ### for i in reversed(range(n)) -/
def dRevRng (t : TD) : TID := fun ρ ω q x => t ρ ω (fun s ω' => match s with | .d (.int j) => int62 j ∧ q (rngS 0 j.toNat).reverse (fun _ => True) ω' | _ => False) x
theorem it_revrng {j : Int} : ItD K (Itc (0 + (((j - 0).toNat : Nat) : Int) - 1) (-1) (j - 0).toNat) [] (fun _ => True) (rngS 0 j.toNat).reverse := by
  have hl : (rngS 0 j.toNat).reverse.length = (j - 0).toNat := by simp [rngS]
  refine ⟨fun _ => True, _, by rw [hl]; exact walk_rangeC, fun Φ H σ ρ ω T st m _ => ⟨True.intro, fun i x H' hi y => ?_⟩⟩
  obtain ⟨rfl, rfl⟩ := y
  rw [hl] at hi
  refine ⟨.d (.int (0 + (((j - 0).toNat : Nat) : Int) - 1 + (i : Nat) * (-1))), ?_, st.push fun _ => .int _⟩
  have hi' : i < (rngS 0 j.toNat).length := by rw [List.length_reverse] at hl; omega
  rw [List.getElem?_reverse hi']
  have hl2 : (rngS 0 j.toNat).length = j.toNat := by simp [rngS]
  have h3 : j.toNat - 1 - i < j.toNat := by simp at hi; omega
  rw [hl2]
  unfold rngS
  rw [List.getElem?_map, List.getElem?_range h3]
  simp only [Option.map_some, Option.some.injEq, S.d.injEq, D.int.injEq]
  simp at hi ⊢
  omega
theorem yi_revrange1 {tg a : Expr} {t : TD} {p p2 pos pos2 : Pos} (b : Bu X.mg) (h0 : PD X K E a ht t) (hg : Gl X "reversed" := by rfl) (hg2 : Gl X "range" := by rfl) (na : starEach [a] X.env = (false, eval a X.env) :: starEach [] X.env := by rfl)
    (hs : starEach [.Call (.Name "range" p2) [a] [] pos2] X.env = (false, eval (.Call (.Name "range" p2) [a] [] pos2) X.env) :: starEach [] X.env := by rfl) : PID X K E tg (.Call (.Name "reversed" p) [.Call (.Name "range" p2) [a] [] pos2] [] pos) (iRevR (tRg1 ht)) (dRevRng t) :=
  ⟨pi_revR hg b.reversed (prg_1 hg2 b.range h0.p na) hs, fun Φ H σ ρ ω T q Rr x s hx k h => h0.r Φ H σ ρ ω T _ _ x s hx (fun s1 ω1 v H1 h st => by
    split at h
    · obtain ⟨B, α, sb⟩ := st
      rename_i j
      exact ⟨j, r_int (show R K B v (.int j) from sb.tm (v, .d (.int j)) (by simp)), by decide, by decide, h.1.1, h.1.2, k _ _ _ _ _ [] h.2 (sb.st.sub fun p hp => by simp at hp; simp [hp]) it_revrng⟩
    · exact h.elim) h⟩
end
end Y

set_option Elab.async false
set_option linter.all false
set_option maxRecDepth 100000
set_option maxHeartbeats 1000000
/-! list comprehensions of any number of clauses -/
namespace XC
open PySem PySem.Spec PyProof.Rows L2
/-- what stands behind the tests of clause k - 1: the next clause, or the element -/
def tailSem (e0 : Expr) (elt : Expr) (gs : List Comprehension) (k : Nat) (acc : Value) (env : Env) : Sem Unit :=
  match gs[k]? with
  | some g => do
    let x ← eval g.iter env
    standAt g.iter.pos
    let x ← foldedSetIterable g.iter env x
    let _ ← runOwn (.compStart e0 k (← holding [x] (pyIter x)) acc env) env
  | none => do let _ ← call (.builtin "list.append") [acc, ← eval elt env]
theorem turn_eq (elt : Expr) (gs : List Comprehension) (scope : Scope) (pos : Pos) (k : Nat) (tg iter : Expr) (ifs : List Expr) (hk : gs[k]? = some ⟨tg, iter, ifs, 0⟩) (hn : ∀ g, gs[k + 1]? = some g → g.is_async = 0) (it acc : Value) (env : Env) :
    compTurn (.ListComp elt gs scope pos) k it acc env = (do
      standAt iter.pos
      match ← pyNext it with
      | none => pure (.done .next)
      | some v =>
        letOwnedTupleGo tg it v
        assign tg env v
        let ok ← forIn ifs true fun c r => if r = true then do let ok ← isTrue c env (eval c env); pure (ForInStep.yield ok) else pure (ForInStep.yield r)
        if ok = true then
          tailSem (.ListComp elt gs scope pos) elt gs (k + 1) acc env
        again (.compLoop (.ListComp elt gs scope pos) k it acc env)) := by
  unfold compTurn tailSem
  dsimp only
  rw [hk]
  cases hg : gs[k + 1]? with
  | none =>
    simp only [bne_self_eq_false, Bool.false_eq_true, if_false, bind_assoc, pure_bind]
    rfl
  | some g =>
    have := hn g hg
    obtain ⟨a, b, c, d⟩ := g
    simp only at this
    subst this
    simp only [bne_self_eq_false, Bool.false_eq_true, if_false, bind_assoc, pure_bind]
    rfl
section
variable {prog : Program} {w : World} {A : Around} {R : Result → Shared → Prop} {s : Shared} {elt tg iter : Expr} {ifs : List Expr} {gs : List Comprehension} {scope : Scope} {pos : Pos} {k : Nat} {it acc : Value} {env : Env}
theorem loop_any (hk : gs[k]? = some ⟨tg, iter, ifs, 0⟩) (hn : ∀ g, gs[k + 1]? = some g → g.is_async = 0) (I : Nat → Shared → Prop)
    (turn : ∀ n s, I n s → wpAny (model prog w) A (pyNext it) (fun r s1 => match r with
      | none => R (.ok .next) s1
      | some v => wpAny (model prog w) A (letOwnedTupleGo tg it v) (fun _ s1' => wpAny (model prog w) A (assign tg env v) (fun _ s2 =>
          wpAny (model prog w) A (forIn ifs true fun c r => if r = true then do let ok ← isTrue c env (eval c env); pure (ForInStep.yield ok) else pure (ForInStep.yield r)) (fun ok s3 =>
            if ok = true then wpAny (model prog w) A (tailSem (.ListComp elt gs scope pos) elt gs (k + 1) acc env) (fun _ s5 => ∃ m, m < n ∧ I m s5) (notedBy (model prog w) A env fun e s' => R (.error e) s') s3
            else ∃ m, m < n ∧ I m s3) (notedBy (model prog w) A env fun e s' => R (.error e) s') s2) (notedBy (model prog w) A env fun e s' => R (.error e) s') s1') (notedBy (model prog w) A env fun e s' => R (.error e) s') s1) (notedBy (model prog w) A env fun e s' => R (.error e) s') s)
    (n : Nat) (h : I n s) :
    codeAny (model prog w) A (.compLoop (.ListComp elt gs scope pos) k it acc env) R s := by
  refine codeAny_loop rfl I (fun n s hI => ?_) n h
  show wpAny _ A ((compTurn (.ListComp elt gs scope pos) k it acc env).onRaise (fun x => do noteFrame x env; theTreesLotGoes x)) _ _ s
  refine wpAny_noted ?_
  rw [turn_eq elt gs scope pos k tg iter ifs hk hn]
  refine wpAny_bind (wpAny_standAt (wpAny_bind (wpAny_mono (turn n s hI) (fun r s1 h1 => ?_) fun _ _ h' => h')))
  cases r with
  | none => exact wpAny_pure h1
  | some v =>
    refine wpAny_bind (wpAny_mono h1 (fun _ s1' h1' => ?_) fun _ _ h' => h')
    refine wpAny_bind (wpAny_mono h1' (fun _ s2 h2 => wpAny_bind (wpAny_mono h2 (fun ok s3 h3 => ?_) fun _ _ h' => h')) fun _ _ h' => h')
    cases ok with
    | false => exact wpAny_pure ⟨rfl, h3⟩
    | true => exact wpAny_bind (wpAny_mono h3 (fun _ s5 h5 => wpAny_pure ⟨rfl, h5⟩) fun _ _ h' => h')
theorem start_any (hk : gs[k]? = some ⟨tg, iter, ifs, 0⟩) (h0 : codeAny (model prog w) A (.compLoop (.ListComp elt gs scope pos) k it acc env) R s)
    (h : wpAny (model prog w) A (pyIter it) (fun it' s' => codeAny (model prog w) A (.compLoop (.ListComp elt gs scope pos) k it' acc env) R s') (notedBy (model prog w) A env fun x s' => R (.error x) s') s) :
    codeAny (model prog w) A (.compStart (.ListComp elt gs scope pos) k it acc env) R s := by
  have hc : (clausesOf (.ListComp elt gs scope pos))[k]? = some ⟨tg, iter, ifs, 0⟩ := hk
  refine codeAny_of_tree ?_
  show wpAny _ _ ((compStart (.ListComp elt gs scope pos) k it acc env).onRaise (fun x => do noteFrame x env; standAt theWindowsPlace)) _ _ s
  refine wpAny_notedAt ?_
  unfold compStart
  rw [hc]
  show wpAny _ _ (ask >>= _) _ _ s
  refine wpAny_bind (wpAny_askSetting (wpAny_ite ?_))
  split
  · first
      | exact wpAny_bind (wpAny_pure (wpAny_pure (And.intro rfl h0)))
      | exact wpAny_pure (And.intro rfl h0)
  · first
      | exact wpAny_bind (wpAny_rule (wpAny_bind (wpAny_standAt (wpAny_bind (wpAny_mono h (fun it' s' h' => wpAny_pure (And.intro rfl h')) fun _ _ x => x)))))
      | (refine wpAny_bind (wpAny_rule ?_); show wpAny _ _ (standAt iter.pos >>= _) _ _ s; exact wpAny_bind (wpAny_standAt (wpAny_bind (wpAny_mono h (fun it' s' h' => wpAny_pure (And.intro rfl h')) fun _ _ x => x))))
end
/-- the part of a block behind the tests of clause k - 1; ws: the slots that it stores -/
structure PB (B : Cx) (e0 elt : Expr) (gs : List Comprehension) (k : Nat) (D : Addr) (ws : List Nat) (t : L2.St → Hp → (Hp → Prop) → Prop) : Prop where
  run : ∀ (pins : List (Addr × Obj)) (s : Shared) (σ : L2.St) (H : Hp) (N : Hp → Prop), Inv B pins σ H s → t σ H N →
    wpAny (model B.prog B.w) B.A (tailSem e0 elt gs k (.ref D) B.env) (fun _ s' => ∃ H', Inv B pins (wipe σ ws) H' s' ∧ N H') (fun _ _ => False) s
theorem weak_wipe {B : Cx} {pins : List (Addr × Obj)} {σ : L2.St} {H : Hp} {s : Shared} (I : Inv B pins σ H s) (ws : List Nat) : Inv B pins (wipe σ ws) H s := I.weak (wipe_length _ _) fun j v e => (wipe_some e).1
/-- the element -/
theorem pb_last {B : Cx} {e0 elt : Expr} {gs : List Comprehension} {k : Nat} {D : Addr} {te : TE} (hk : gs[k]? = none) (hxe : B.xe = fun _ _ => False) (he : PE B elt te) :
    PB B e0 elt gs k D [] fun σ H N => te σ H fun y H4 => ∃ acc, H4 D = some (.lst acc) ∧ acc.length < sizeLine ∧ N (upd H4 D (.lst (acc ++ [y]))) := ⟨fun pins s σ H N I h => by
  unfold tailSem
  rw [hk]
  refine wpAny_bind (wpAny_mono (he.run pins s σ H _ I h) (fun v s1 ⟨y, H1, I1, r1, acc, hD, hz, nx⟩ => ?_) fun e s' z => by rw [hxe] at z; exact z)
  exact wpAny_bind (app_ok (X := B) I1 hD hz r1 fun s2 I2 => wpAny_pure ⟨_, I2, nx⟩)⟩
/-- a further clause -/
def tMid (wi : TI) (g : TG) (tt : TT) (ws : List Nat) (tl : L2.St → Hp → (Hp → Prop) → Prop) : L2.St → Hp → (Hp → Prop) → Prop := fun σ H N => wi σ H fun J H1 => ∃ W : Nat → Nat → Hp → Prop, (∃ m, W 0 m H1) ∧ ∀ j k H, W j k H →
  (J.stop j H ∧ N H) ∨ (J.go j H ∧ ∃ Nx : Hp → Prop, (∀ H', Nx H' → ∃ k', k' < k ∧ W (j + 1) k' H') ∧ ∀ x H', J.yld j H x H' → g x (wipe σ ws) H' fun σ3 H5 => wipe σ3 ws = wipe σ ws ∧ tt σ3 H5 fun b H6 =>
    if b = true then tl σ3 H6 Nx else Nx H6)
theorem pb_mid {B : Cx} {elt tg iter : Expr} {ifs : List Expr} {gs : List Comprehension} {scope : Scope} {pos : Pos} {k : Nat} {D : Addr} {ws ws' : List Nat} {wi : TI} {g : TG} {tt : TT} {tl : L2.St → Hp → (Hp → Prop) → Prop}
    (hk : gs[k]? = some ⟨tg, iter, ifs, 0⟩) (hn : ∀ g, gs[k + 1]? = some g → g.is_async = 0) (hxe : B.xe = fun _ _ => False) (hc : B.calm = true) (hs : ∀ env x, foldedSetIterable iter env x = pure x)
    (hi : PI B tg iter wi) (hg : PG B tg g) (ht : PTs B ifs tt) (hw : ∀ i ∈ ws', i ∈ ws) (hb : PB B (.ListComp elt gs scope pos) elt gs (k + 1) D ws' tl) :
    PB B (.ListComp elt gs scope pos) elt gs k D ws (tMid wi g tt ws tl) := ⟨fun pins s σ H N I h => by
  have toF : ∀ {e : Value} {s' : Shared}, B.xe e s' → False := fun z => by rw [hxe] at z; exact z
  unfold tailSem
  rw [hk]
  refine wpAny_bind (wpAny_mono (hi.run pins s σ H _ I h) (fun xv s1 hx => ?_) fun _ _ z => toF z)
  refine wpAny_bind (wpAny_standAt ?_)
  refine wpAny_bind (wpAny_of_eq (hs B.env xv) (wpAny_bind (wpAny_holding (wpAny_mono hx (fun itv s2 h2 => ?_) fun _ _ z => toF z))))
  obtain ⟨it1, fp1, tn1, J1, H2, e1, I2, T1, st2, f2, W1, ⟨m1, w1⟩, turn1⟩ := h2
  subst e1
  have stat1 : ∀ {H' : Hp}, (∀ b ∈ fp1, H' b = none) → ∀ b ∈ fp1, FpOk B pins H' b := fun hn b hb => ⟨hn b hb, (f2 b hb).2⟩
  have loop1 : codeAny (model B.prog B.w) B.A (.compLoop (.ListComp elt gs scope pos) k (.ref it1) (.ref D) B.env)
      (fun r s' => match r with
        | .ok _ => ∃ H', Inv B pins (wipe σ ws) H' s' ∧ N H'
        | .error _ => False) s2 := by
    refine loop_any hk hn (fun n s' => ∃ j H', Inv B pins (wipe σ ws) H' s' ∧ tn1 j s'.heap ∧ (∀ b ∈ fp1, H' b = none) ∧ W1 j n H') ?_ m1 ⟨0, H2, weak_wipe I2 ws, st2, fun b hb => (f2 b hb).1, w1⟩
    rintro n s3 ⟨j, H3, I3, st3, n3, w3⟩
    rcases turn1 j n H3 w3 with ⟨stop1, nx1⟩ | ⟨go1, Nx1, hNx1, step1⟩
    · refine thnF (T1.done B rfl rfl rfl hc j _ s3 (wipe σ ws) H3 (fun _ _ => False) I3 (stat1 n3) st3 stop1) fun r s4 ⟨hr, I4⟩ => ?_
      subst hr
      exact ⟨H3, I4, nx1⟩
    · refine thnF (T1.item B rfl rfl rfl hc j _ s3 (wipe σ ws) H3 (fun _ _ => False) I3 (stat1 n3) st3 go1) fun r s4 ⟨u1, hr, h4⟩ => ?_
      subst hr
      refine thnF h4 fun _ s5 ⟨x1, H5, I5, r5, y5, st5, n5⟩ => ?_
      have I5' := I5.pinned (stat1 n5) (T1.obj _ _ st5)
      refine wpAny_mono (hg.run _ s5 (wipe σ ws) H5 x1 u1 _ I5' r5 (step1 x1 H5 y5)) (fun _ s6 ⟨σ6, H6, I6, hw6, q6⟩ => ?_) fun _ _ z => (toF z).elim
      refine wpAny_mono (ht.run _ s6 σ6 H6 _ I6 q6) (fun b1 s7 ⟨H7, I7, q7⟩ => ?_) fun _ _ z => (toF z).elim
      have fin1 : ∀ {s' : Shared} {H' : Hp}, Inv B (pins ++ pinsAt fp1 s5.heap) (wipe σ6 ws) H' s' → Nx1 H' → ∃ m, m < n ∧ ∃ j H', Inv B pins (wipe σ ws) H' s' ∧ tn1 j s'.heap ∧ (∀ b ∈ fp1, H' b = none) ∧ W1 j m H' := fun {s' H'} I' nx => by
        obtain ⟨m', hm, w'⟩ := hNx1 H' nx
        have pin' : ∀ b ∈ fp1, ∀ o, s5.heap.get? b = some o → s'.heap.get? b = some o ∧ H' b = none := fun b hb o e =>
          let z := I'.pin (b, o) (List.mem_append_right _ (List.mem_append_right _ (mem_pinsAt hb e)))
          ⟨z.1, z.2.1⟩
        rw [hw6] at I'
        refine ⟨m', hm, j + 1, H', I'.unpinned, T1.keep _ _ _ st5 fun b hb o e => (pin' b hb o e).1, fun b hb => ?_, w'⟩
        obtain ⟨o, e, _⟩ := T1.obj _ _ st5 b hb
        exact (pin' b hb o e).2
      cases b1 with
      | false =>
        simp only [Bool.false_eq_true, if_false] at q7 ⊢
        exact fin1 (weak_wipe I7 ws) q7
      | true =>
        simp only [if_true] at q7 ⊢
        refine thnF (hb.run _ s7 σ6 H7 _ I7 q7) fun _ s8 ⟨H8, I8, nx⟩ => fin1 (I8.weak (by rw [wipe_length, wipe_length]) fun j v e => ?_) nx
        obtain ⟨z1, z2⟩ := wipe_some e
        rw [wipe_out fun m => z2 (hw j m)]
        exact z1
  refine wpAny_bind (wpAny_runOwn ?_)
  rw [Around.mark_none]
  refine codeAny_mono (start_any hk loop1 (T1.self B.A 0 _ _ _ st2 loop1)) fun r s' hr => ?_
  cases r with
  | ok f =>
    first
      | exact wpAny_pure hr
      | exact hr
  | error e => exact hr.elim⟩
section
variable {X : Cx}
/-- [elt for tg in iter if .. rest]: tl, by the new list, is the reading of what stands behind the first clause's tests -/
def tLcN (wi : TI) (g : TG) (tt : TT) (vs : List Nat) (tl : Addr → L2.St → Hp → (Hp → Prop) → Prop) : TE := fun σ H Q => wi σ H fun J H1 => ∀ D, H1 D = none → ∃ W : Nat → Nat → Hp → Prop, (∃ m, W 0 m (upd H1 D (.lst []))) ∧ ∀ i m H, W i m H →
  (J.stop i H ∧ Q (.ref D) H) ∨ (J.go i H ∧ ∃ Nx : Hp → Prop, (∀ H', Nx H' → ∃ m', m' < m ∧ W (i + 1) m' H') ∧ ∀ x H', J.yld i H x H' → g x (wipe σ vs) H' fun σ2 H2 => wipe σ2 vs = wipe σ vs ∧ tt σ2 H2 fun b H3 =>
    if b = true then tl D σ2 H3 Nx else Nx H3)
theorem lcN_core {pins : List (Addr × Obj)} {s : Shared} {σ : L2.St} {H : Hp} {Q : VK} {elt tg iter : Expr} {ifs : List Expr} {rest : List Comprehension} {scope : Scope} {own : List (Str × Nat)} {ws' : List Nat} {pos pos' : Pos} {wi : TI} {g : TG} {tt : TT} {tl : Addr → L2.St → Hp → (Hp → Prop) → Prop} {use : Option (Value → Sem Unit)} {Qf : Value → Shared → Prop}
    (hc : X.calm = true) (hN : X.N.Nodup) (I : Inv X pins σ H s) (hi : PI X tg iter wi) (ok : BlkOk X.N X.env.scope scope own) (hw : ∀ i ∈ ws', i ∈ own.map (·.2)) (hn : ∀ g, rest[0]? = some g → g.is_async = 0)
    (hg : ∀ (s : Shared) (H : Hp) (C : Addr) (cl : List (Str × Addr)) (fp : List Addr), PG (X.blk s H scope (compEnvC scope cl C X.env) fp) tg g) (ht : ∀ (s : Shared) (H : Hp) (C : Addr) (cl : List (Str × Addr)) (fp : List Addr), PTs (X.blk s H scope (compEnvC scope cl C X.env) fp) ifs tt)
    (hb : ∀ (s : Shared) (H : Hp) (C : Addr) (cl : List (Str × Addr)) (fp : List Addr) (D : Addr), PB (X.blk s H scope (compEnvC scope cl C X.env) fp) (.ListComp elt (⟨tg, iter, ifs, 0⟩ :: rest) scope pos) elt (⟨tg, iter, ifs, 0⟩ :: rest) 1 D ws' (tl D)) (hs : ∀ x, foldedSetIterable iter X.env x = pure x)
    (h : tLcN wi g tt (own.map (·.2)) tl σ H Q)
    (hRR : ∀ D C s' m H', Inv X pins σ H' s' → Q (.ref D) H' → s'.heap.Ns C m → FpOk X pins H' C → compPost (model X.prog X.w) X.A X.xe use Qf (.ref D) C (.ok .next) s') :
    wpAny (model X.prog X.w) X.A (comprehension (.ListComp elt (⟨tg, iter, ifs, 0⟩ :: rest) scope pos) scope X.env pos' (newList []) false (eval iter X.env) use) Qf X.xe s := by
  have hfree : ∀ y ∈ scope.names, y.2 = .free → ∃ c, X.env.cells.lookup y.1 = some c := fun y hy e => by
    rcases ok.free y hy e with k | k
    · exact I.ok.has _ (.inl k)
    · exact I.ok.has _ (.inr k)
  refine wpAny_comprehension_free (use := use) rfl hs (closure_ok hfree) ok.kind (fun y hy e => by rw [ok.uniq y hy, e])
    (thn (hi.run pins s σ H _ I h) fun xv s1 hx => thn hx fun itv s2 h2 => ?_)
  obtain ⟨it, fp, tn, J, H2, e, I2, T, st2, f2, q⟩ := h2
  subst e
  refine wpAny_newObj_type (newEnv_comp ?_) (by show 0 ≤ sizeLine; decide)
  generalize hD : s2.heap.objs.size = D
  obtain ⟨W, ⟨m0, w0⟩, turn⟩ := q D (I2.hok.fresh (Nat.le_of_eq hD))
  generalize hs3 : ({ s2 with heap := s2.heap.push { cls := .type "list", data := .seq ([] : List Value).toArray } } : Shared) = s3
  have I3 : Inv X pins σ (upd H2 D (.lst [])) s3 := by
    rw [← hs3]
    refine I2.laid (t' := s2.toks) (fun b o e => Heap.get?_push_of_some _ e) (Nat.le_of_eq hD) ⟨Nat.zero_le _, [], 0, .nil, ?_⟩
    rw [← hD]
    exact Heap.get?_push_size _ rfl
  have h3 : s3.heap = s2.heap.push { cls := .type "list", data := .seq ([] : List Value).toArray } := by rw [← hs3]
  have f3 : ∀ b ∈ fp, FpOk X pins (upd H2 D (.lst [])) b ∧ b < s3.heap.objs.size := fun b hb => by
    obtain ⟨o, e, _⟩ := T.obj _ _ st2 b hb
    have hlt := Heap.lt_size e
    refine ⟨⟨?_, (f2 b hb).2⟩, by rw [h3, Heap.size_push]; exact Nat.lt_succ_of_lt hlt⟩
    rw [upd_ne (by rw [← hD]; exact Nat.ne_of_lt hlt)]
    exact (f2 b hb).1
  have st3 : tn 0 s3.heap := T.keep _ _ _ st2 fun b _ o e => by rw [h3]; exact Heap.get?_push_of_some _ e
  have I4 := block_start I3 ok hN f3
  have pg := hg s3 (upd H2 D (.lst [])) s3.heap.objs.size (cellsFrom (s3.heap.objs.size + 1) scope.names (cloFrom X.env.cells scope.names [])) fp
  have pt := ht s3 (upd H2 D (.lst [])) s3.heap.objs.size (cellsFrom (s3.heap.objs.size + 1) scope.names (cloFrom X.env.cells scope.names [])) fp
  have pb := hb s3 (upd H2 D (.lst [])) s3.heap.objs.size (cellsFrom (s3.heap.objs.size + 1) scope.names (cloFrom X.env.cells scope.names [])) fp D
  show codeAny _ _ (.compStart (.ListComp elt (⟨tg, iter, ifs, 0⟩ :: rest) scope pos) 0 (.ref it) (.ref D) (compEnvC scope (cellsFrom (s3.heap.objs.size + 1) scope.names (cloFrom X.env.cells scope.names [])) s3.heap.objs.size X.env)) (compPost (model X.prog X.w) X.A X.xe use Qf (.ref D) s3.heap.objs.size) { s3 with heap := pushCells (s3.heap.push { cls := .type "dict", data := .dict #[] }) scope.names }
  have nfp : ∀ b ∈ fp, (upd H2 D (.lst [])) b = none := fun b hb => (f3 b hb).1.1
  generalize hce : compEnvC scope (cellsFrom (s3.heap.objs.size + 1) scope.names (cloFrom X.env.cells scope.names [])) s3.heap.objs.size X.env = ce at I4 pg pt pb ⊢
  have cL : ce.locals = s3.heap.objs.size := by subst hce; rfl
  generalize hH3 : upd H2 D (.lst []) = H3 at I3 I4 pg pt pb w0 nfp f3
  generalize hs4 : ({ s3 with heap := pushCells (s3.heap.push { cls := .type "dict", data := .dict #[] }) scope.names } : Shared) = s4 at I4 ⊢
  have st4 : tn 0 s4.heap := T.keep _ _ _ st3 fun b _ o e => by rw [← hs4]; exact pushCells_keeps _ _ _ _ (Heap.get?_push_of_some _ e)
  have stat : ∀ {σ' : L2.St} {H' : Hp} {s' : Shared}, Inv (X.blk s3 H3 scope ce fp) [] σ' H' s' → (∀ b ∈ fp, H' b = none) → ∀ b ∈ fp, FpOk (X.blk s3 H3 scope ce fp) [] H' b := fun {σ' H' s'} I' hn b hb =>
    ⟨hn b hb, (I'.ok.exf b hb).1, I'.ok.exfs b hb, .inl hb, fun x c e => (I'.ok.exf b hb).2 x c e, fun p hp => absurd (show p ∈ ([] : List (Addr × Obj)) ++ [] from hp) (by simp)⟩
  have loop : codeAny (model X.prog X.w) X.A (.compLoop (.ListComp elt (⟨tg, iter, ifs, 0⟩ :: rest) scope pos) 0 (.ref it) (.ref D) ce) (compPost (model X.prog X.w) X.A X.xe use Qf (.ref D) s3.heap.objs.size) s4 := by
    refine loop_any (k := 0) (gs := ⟨tg, iter, ifs, 0⟩ :: rest) rfl (fun g hg => hn g hg) (fun n s' => ∃ i H', Inv (X.blk s3 H3 scope ce fp) [] (wipe σ (own.map (·.2))) H' s' ∧ tn i s'.heap ∧ (∀ b ∈ fp, H' b = none) ∧ W i n H') ?_ m0 ⟨0, H3, I4, st4, nfp, w0⟩
    rintro n s5 ⟨i, H5, I5, st5, n5, w5⟩
    rcases turn i n H5 w5 with ⟨stop, qq⟩ | ⟨go, Nx, hNx, step⟩
    · have td := T.done (X.blk s3 H3 scope ce fp) rfl rfl rfl hc i [] s5 _ H5 (fun _ _ => False) I5 (stat I5 n5) st5 stop
      refine thnF td fun r s6 ⟨hr, I6⟩ => ?_
      subst hr
      have I7 : Inv X pins σ H5 s6 := I3.call' (ch := fp) I6.os I6.base I6.hok I6.bare fun b hb => ⟨(f3 b hb).1.2.2.2.1, (f3 b hb).1.2.1, (f3 b hb).1.2.2.2.2.1, (f3 b hb).1.2.2.2.2.2⟩
      have nC : H5 s3.heap.objs.size = none := by
        have z : H5 ce.locals = none := I6.free
        rw [cL] at z
        exact z
      obtain ⟨m, hn, _⟩ := I6.loc
      have hn : s6.heap.Ns ce.locals m := hn
      rw [cL] at hn
      exact hRR D s3.heap.objs.size s6 m H5 I7 qq hn (I3.fpOk (Nat.le_refl _) nC)
    · have ti := T.item (X.blk s3 H3 scope ce fp) rfl rfl rfl hc i [] s5 _ H5 (fun _ _ => False) I5 (stat I5 n5) st5 go
      refine thnF ti fun r s6 ⟨u, hr, h6⟩ => ?_
      subst hr
      refine thnF h6 fun _ s7 ⟨x, H7, I7, r7, y7, st7, n7⟩ => ?_
      have I7' := I7.pinned (stat I7 n7) (T.obj _ _ st7)
      refine thnF (pg.run _ s7 _ H7 x u _ I7' r7 (step x H7 y7)) fun _ s8 ⟨σ8, H8, I8, hw8, q8⟩ => ?_
      refine thnF (pt.run _ s8 σ8 H8 _ I8 q8) fun b s9 ⟨H9, I9, q9⟩ => ?_
      have fin : ∀ {s' : Shared} {H' : Hp}, Inv (X.blk s3 H3 scope ce fp) ([] ++ pinsAt fp s7.heap) (wipe σ8 (own.map (·.2))) H' s' → Nx H' → ∃ m, m < n ∧ ∃ i H', Inv (X.blk s3 H3 scope ce fp) [] (wipe σ (own.map (·.2))) H' s' ∧ tn i s'.heap ∧ (∀ b ∈ fp, H' b = none) ∧ W i m H' := fun {s' H'} I' nx => by
        obtain ⟨m', hm, w'⟩ := hNx H' nx
        have pin' : ∀ b ∈ fp, ∀ o, s7.heap.get? b = some o → s'.heap.get? b = some o ∧ H' b = none := fun b hb o e =>
          let z := I'.pin (b, o) (List.mem_append_right _ (List.mem_append_right _ (mem_pinsAt hb e)))
          ⟨z.1, z.2.1⟩
        rw [hw8] at I'
        refine ⟨m', hm, i + 1, H', I'.unpinned (pins := []), T.keep _ _ _ st7 fun b hb o e => (pin' b hb o e).1, fun b hb => ?_, w'⟩
        obtain ⟨o, e, _⟩ := T.obj _ _ st7 b hb
        exact (pin' b hb o e).2
      cases b with
      | false =>
        simp only [Bool.false_eq_true, if_false] at q9 ⊢
        exact fin (weak_wipe I9 _) q9
      | true =>
        simp only [if_true] at q9 ⊢
        refine thnF (pb.run _ s9 σ8 H9 _ I9 q9) fun _ s10 ⟨H10, I10, nx⟩ => fin (I10.weak (by rw [wipe_length, wipe_length]) fun j v e => ?_) nx
        obtain ⟨z1, z2⟩ := wipe_some e
        rw [wipe_out fun m => z2 (hw j m)]
        exact z1
  exact codeAny_compStart_list loop (T.self X.A 0 _ _ _ st4 loop)
/-- as a value -/
theorem pe_lcN {elt tg iter : Expr} {ifs : List Expr} {rest : List Comprehension} {scope : Scope} {own : List (Str × Nat)} {ws' : List Nat} {pos : Pos} {wi : TI} {g : TG} {tt : TT} {tl : Addr → L2.St → Hp → (Hp → Prop) → Prop} (hc : X.calm = true) (hN : X.N.Nodup) (hi : PI X tg iter wi) (ok : BlkOk X.N X.env.scope scope own)
    (hw : ∀ i ∈ ws', i ∈ own.map (·.2)) (hn : ∀ g, rest[0]? = some g → g.is_async = 0)
    (hg : ∀ (s : Shared) (H : Hp) (C : Addr) (cl : List (Str × Addr)) (fp : List Addr), PG (X.blk s H scope (compEnvC scope cl C X.env) fp) tg g) (ht : ∀ (s : Shared) (H : Hp) (C : Addr) (cl : List (Str × Addr)) (fp : List Addr), PTs (X.blk s H scope (compEnvC scope cl C X.env) fp) ifs tt)
    (hb : ∀ (s : Shared) (H : Hp) (C : Addr) (cl : List (Str × Addr)) (fp : List Addr) (D : Addr), PB (X.blk s H scope (compEnvC scope cl C X.env) fp) (.ListComp elt (⟨tg, iter, ifs, 0⟩ :: rest) scope pos) elt (⟨tg, iter, ifs, 0⟩ :: rest) 1 D ws' (tl D)) (hs : ∀ x, foldedSetIterable iter X.env x = pure x := by intro _; rfl) :
    PE X (.ListComp elt (⟨tg, iter, ifs, 0⟩ :: rest) scope pos) (tLcN wi g tt (own.map (·.2)) tl) := by
  refine ⟨fun pins s σ H Q I h => ?_⟩
  rw [eval_ListComp]
  refine lcN_core hc hN I hi ok hw hn hg ht hb hs h fun D C s' m H' I' q hn f => ⟨m, hn, fun h'' sb => ?_⟩
  obtain ⟨f0, f1, f2, f3, f4, f5⟩ := f
  exact ⟨.ref D, H', I'.turned (t' := s'.toks) (fun b o hb e => (sb.2 b hb).trans e) f0 f1 f3 f4 f5, rfl, q⟩
end
end XC

set_option Elab.async false
set_option linter.all false
set_option maxRecDepth 100000
set_option maxHeartbeats 2000000
namespace XC
open PySem PySem.Spec PyProof.Rows L2
section
variable {X : Cx}
theorem ps_setLcN {i : Nat} {y : Str} {py : Pos} {elt tg iter : Expr} {ifs : List Expr} {rest : List Comprehension} {scope : Scope} {own : List (Str × Nat)} {ws' : List Nat} {pos spos : Pos} {wi : TI} {g : TG} {tt : TT} {tl : Addr → L2.St → Hp → (Hp → Prop) → Prop} (hc : X.calm = true) (hN : X.N.Nodup) (hy : X.N[i]? = some y) (hyl : X.env.scope.names.lookup y = some .local)
    (hsw : swapsWith (.ListComp elt (⟨tg, iter, ifs, 0⟩ :: rest) scope pos) (some (.Name y py)) spos.line X.env = pure true) (hi : PI X tg iter wi) (ok : BlkOk X.N X.env.scope scope own)
    (hw : ∀ i ∈ ws', i ∈ own.map (·.2)) (hn : ∀ g, rest[0]? = some g → g.is_async = 0)
    (hg : ∀ (s : Shared) (H : Hp) (C : Addr) (cl : List (Str × Addr)) (fp : List Addr), PG (X.blk s H scope (compEnvC scope cl C X.env) fp) tg g) (ht : ∀ (s : Shared) (H : Hp) (C : Addr) (cl : List (Str × Addr)) (fp : List Addr), PTs (X.blk s H scope (compEnvC scope cl C X.env) fp) ifs tt)
    (hb : ∀ (s : Shared) (H : Hp) (C : Addr) (cl : List (Str × Addr)) (fp : List Addr) (D : Addr), PB (X.blk s H scope (compEnvC scope cl C X.env) fp) (.ListComp elt (⟨tg, iter, ifs, 0⟩ :: rest) scope pos) elt (⟨tg, iter, ifs, 0⟩ :: rest) 1 D ws' (tl D)) (hs : ∀ x, foldedSetIterable iter X.env x = pure x := by intro _; rfl) :
    PS X (.Assign [.Name y py] (.ListComp elt (⟨tg, iter, ifs, 0⟩ :: rest) scope pos) spos) (tAsg (tLcN wi g tt (own.map (·.2)) tl) (gName i)) := by
  refine ⟨fun pins s σ H D I h => ?_⟩
  rw [exec_Assign_Name_used _ _ _ _ hsw]
  refine wpAny_bind (wpAny_standAt (wpAny_bind ?_))
  show wpAny _ X.A (do let _ ← comprehension (.ListComp elt (⟨tg, iter, ifs, 0⟩ :: rest) scope pos) scope X.env (firstIterPos (⟨tg, iter, ifs, 0⟩ :: rest) pos) (newList []) false (eval iter X.env) (some (assign (.Name y py) X.env))) _ _ s
  have h : tLcN wi g tt (own.map (·.2)) tl σ H (fun x H1 => gName i x σ H1 D.nx) := h
  refine wpAny_bind (thn (lcN_core (Qf := fun _ s' => SP X pins D .next s') hc hN I hi ok hw hn hg ht hb hs h fun L C s' m H' I' q hn f => ?_) fun _ s' hq => wpAny_pure (wpAny_pure hq))
  show wpAny _ _ (assign (.Name y py) X.env (.ref L)) _ _ _
  refine wpAny_assign_Name (store_ok2 (v := V.ref L) I' hN hy (.inl hyl) rfl (fun s2 I2 ⟨a, sb, ha⟩ => ?_) (.inr hyl))
  obtain ⟨f0, f1, f2, f3, f4, f5⟩ := f
  have haC : C ≠ a := by
    rcases ha with z | z
    · rw [z]; exact f1
    · exact fun e => f4 y a z e.symm
  refine ⟨m, hn.sameBut sb haC, fun h3 sb3 => ?_⟩
  exact ⟨_, H', I2.turned (t' := s2.toks) (fun b o hb e => (sb3.2 b hb).trans e) f0 f1 f3 f4 f5, q⟩
end
end XC
namespace Y
open PySem PySem.Spec PyProof.Rows L2 StX XC
variable {w : World} [Tb w]
section
variable {K : PySem.W.Frag} {X : Cx} {E : XK}
variable {Φ : Phi} {B : Hp} {α : List Addr} {H : Hp} {σ : L2.St} {ρ : Env} {ω : Sto} {T : List (V × S)}
/-- a walk by turns, whatever a turn is -/
theorem loop_it {J : It} {n : Nat} {G : Hp → Prop} {Yd : Nat → Hp → V → Hp → Prop} (w : Walk J n G Yd) {Step : V → Hp → (Hp → Prop) → Prop} {H0 : Hp} {Qd : Hp → Prop} (Pv : Nat → Hp → Prop) (h0 : Pv 0 H0) (hG : ∀ i H, i ≤ n → Pv i H → G H)
    (hs : ∀ i x H H', i < n → Pv i H → Yd i H x H' → Step x H' (Pv (i + 1))) (hd : ∀ H, Pv n H → Qd H) :
    ∃ W : Nat → Nat → Hp → Prop, (∃ m, W 0 m H0) ∧ ∀ i m H, W i m H → (J.stop i H ∧ Qd H) ∨ (J.go i H ∧ ∃ Nx : Hp → Prop, (∀ H', Nx H' → ∃ m', m' < m ∧ W (i + 1) m' H') ∧ ∀ x H', J.yld i H x H' → Step x H' Nx) := by
  refine ⟨fun i m H => m = n - i ∧ i ≤ n ∧ Pv i H, ⟨n, by simp, Nat.zero_le _, h0⟩, ?_⟩
  rintro i m H ⟨rfl, hi, p⟩
  have q := hG i H hi p
  by_cases hlt : i < n
  · exact .inr ⟨w.goes i H hlt q, Pv (i + 1), fun H' p' => ⟨n - (i + 1), by omega, rfl, hlt, p'⟩, fun x H' y => hs i x H H' hlt p (w.yields i H x H' hlt q y)⟩
  · have e : i = n := by omega
    subst e
    exact .inl ⟨w.stops H q, hd H p⟩
/-- the new list beside the frame -/
structure Acc (K : PySem.W.Frag) (B : Hp) (α : List Addr) (H : Hp) (D : Addr) (xs : List V) (acc : List S) : Prop where
  na : D ∉ α
  nb : B D = none
  e : H D = some (.lst xs)
  r : Paired (RS K α B) xs acc
abbrev TLD := Env → List S → Sto → (List S → Sto → Prop) → XD → Prop
def RefTl (K : PySem.W.Frag) (E : XK) (tl : Addr → L2.St → Hp → (Hp → Prop) → Prop) (d : TLD) : Prop := ∀ (Φ : Phi) (D : Addr) (B : Hp) (α : List Addr) (H : Hp) (σ : L2.St) (ρ : Env) (ω : Sto) (T : List (V × S)) (xs : List V) (acc : List S) (x : XD) (k : List S → Sto → Prop) (N : Hp → Prop),
  Φ.H D = none → StB Φ K B α H σ ρ ω T → Acc K B α H D xs acc → XOk Φ K x E →
  (∀ acc' ω' H' B' α' xs', StB Φ K B' α' H' σ ρ ω' T → Same B B' → (∃ β, α' = α ++ β) → Acc K B' α' H' D xs' acc' → k acc' ω' → N H') → d ρ acc ω k x → tl D σ H N
structure PBD (X : Cx) (K : PySem.W.Frag) (E : XK) (e0 elt : Expr) (gs : List Comprehension) (k : Nat) (ws : List Nat) (tl : Addr → L2.St → Hp → (Hp → Prop) → Prop) (d : TLD) : Prop where
  p : ∀ D, PB X e0 elt gs k D ws (tl D)
  r : RefTl K E tl d
theorem acc_back {Φ : Phi} {B H : Hp} {α : List Addr} {D : Addr} {xs : List V} {acc : List S} (a : Acc K B α H D xs acc) {B' H' : Hp} {α' : List Addr} (f : Frame ⟨B, H, α⟩ B' H' α') : Acc K B' α' H' D xs acc := by
  obtain ⟨x1, x2, x3⟩ := f.out a.e a.na a.nb
  obtain ⟨β, eβ, _⟩ := f.pre
  have eβ : α' = α ++ β := eβ
  exact ⟨x2, x3, x1, by subst eβ; exact paired_mono (fun _ _ h => h.mono f.bb) a.r⟩
def dElt (ed : TD) : TLD := fun ρ acc ω k x => ed ρ ω (fun y ω' => acc.length < 1000000 ∧ k (acc ++ [y]) ω') x
theorem refTl_last {te : TE} {ed : TD} (h0 : Ref K E te ed) : RefTl K E (fun D σ H N => te σ H fun y H4 => ∃ acc, H4 D = some (.lst acc) ∧ acc.length < sizeLine ∧ N (upd H4 D (.lst (acc ++ [y])))) (dElt ed) :=
  fun Φ D B α H σ ρ ω T xs acc x k N nD sb ac hx hk h => by
    have sb0 : StB ⟨B, H, α⟩ K B α H σ ρ ω T := ⟨Frame.refl sb.fr.bh, sb.wd, sb.sl, sb.tm⟩
    refine h0 _ H σ ρ ω T _ _ x sb0.st (hx.step sb.fr) (fun z ω4 zv H6 hl ⟨B', α', sb4⟩ => ?_) h
    obtain ⟨hn, hl⟩ := hl
    have ac5 := acc_back (Φ := Φ) ac sb4.fr
    obtain ⟨na5, nb5, eD5, rp5⟩ := ac5
    obtain ⟨β, eβ, _⟩ := sb4.fr.pre
    have hz := sb4.tm (zv, z) List.mem_cons_self
    have fr5 := sb.fr.trans sb4.fr
    have gne : ∀ b o, B' b = some o → (upd H6 D (.lst (xs ++ [zv]))) b = some o := fun b o q => by rw [upd_ne (ne_of_none q nb5)]; exact sb4.fr.bh b o q
    refine ⟨xs, eD5, Nat.lt_of_lt_of_le (by rw [Paired.length rp5]; exact hn) (lineB (Nat.le_refl _)), hk (acc ++ [z]) ω4 _ B' α' (xs ++ [zv]) ?_ sb4.fr.bb ⟨β, eβ⟩ ⟨na5, nb5, upd_same, paired_app rp5 (.cons hz .nil)⟩ hl⟩
    refine ⟨⟨fr5.bb, gne, fun b o m q => ?_, fr5.fr, fr5.pre⟩, ⟨sb4.wd.tb.upN (sb4.wd.tb.neO eD5 (fun _ z => nomatch z)) _, sb4.wd.nd, sb4.wd.len, fun a m => ?_, fun j a c e1 e2 => ?_⟩, sb4.sl, fun p hp => sb4.tm p (List.mem_cons_of_mem _ hp)⟩
    · rw [upd_ne (ne_of_none q nD)]
      exact fr5.hh b o m q
    · obtain ⟨o, e⟩ := sb4.wd.tr a m
      exact ⟨o, by rw [upd_ne (show a ≠ D from fun z => na5 (by rw [← z]; exact m))]; exact e⟩
    · have ne : a ≠ D := fun z => na5 (z ▸ List.mem_of_getElem? e1)
      have := (sb4.wd.cell j a c e1 e2).mono (β := []) (Same.refl B') id (H' := upd H6 D (.lst (xs ++ [zv]))) (by rw [upd_ne ne])
      simpa using this
def lcT (gd : TGD) (td : TTD) (tl : TLD) (ρ : Env) (P : Sto → Prop) (x : XD) (fin : List S → Sto → Prop) : List S → List S → Sto → Prop
  | [], acc, ω => fin acc ω
  | s :: r, acc, ω => gd s ρ ω (fun ρ1 ω1 => td ρ1 ω1 (fun b ω2 => if b = true then tl ρ1 acc ω2 (fun acc' ω3 => P ω3 ∧ lcT gd td tl ρ P x fin r acc' ω3) x else P ω2 ∧ lcT gd td tl ρ P x fin r acc ω2) x)
/-- the turns of one clause -/
theorem ref_turns {J : It} {P : Sto → Prop} {is : List S} {T0 : List (V × S)} {g : TG} {gd : TGD} {tt : TT} {td : TTD} {tl : Addr → L2.St → Hp → (Hp → Prop) → Prop} {d : TLD} {vs : List Nat} {x : XD} {fin : List S → Sto → Prop} {D : Addr} {Qd : Hp → Prop} {B : Hp} {α : List Addr} {xs : List V} {acc : List S}
    (hI : ItD K J T0 P is) (h2 : RefG K g gd) (go : GO g vs) (h3 : RefT K E tt td) (h4 : RefTl K E tl d) (nD : Φ.H D = none) (sb : StB Φ K B α H σ ρ ω (T0 ++ T)) (ac : Acc K B α H D xs acc) (hx : XOk Φ K x E) (hP : P ω) (h : lcT gd td d (wipeD ρ vs) P x fin is acc ω)
    (hd : ∀ acc' ω' H' B' α' xs', StB Φ K B' α' H' σ ρ ω' (T0 ++ T) → Same B B' → (∃ β, α' = α ++ β) → Acc K B' α' H' D xs' acc' → fin acc' ω' → Qd H') :
    ∃ W : Nat → Nat → Hp → Prop, (∃ m, W 0 m H) ∧ ∀ i m H, W i m H → (J.stop i H ∧ Qd H) ∨ (J.go i H ∧ ∃ Nx : Hp → Prop, (∀ H', Nx H' → ∃ m', m' < m ∧ W (i + 1) m' H') ∧ ∀ v H', J.yld i H v H' →
      g v (wipe σ vs) H' fun σ2 H2 => wipe σ2 vs = wipe σ vs ∧ tt σ2 H2 fun b H3 => if b = true then tl D σ2 H3 Nx else Nx H3) := by
  obtain ⟨G, Yd, hw, hI⟩ := hI
  refine loop_it hw (Step := fun v H' Nx => g v (wipe σ vs) H' fun σ2 H2 => wipe σ2 vs = wipe σ vs ∧ tt σ2 H2 fun b H3 => if b = true then tl D σ2 H3 Nx else Nx H3)
    (fun i H' => ∃ acc' xs' ω' B' α', StB Φ K B' α' H' σ ρ ω' (T0 ++ T) ∧ Same B B' ∧ (∃ β, α' = α ++ β) ∧ Acc K B' α' H' D xs' acc' ∧ P ω' ∧ lcT gd td d (wipeD ρ vs) P x fin (is.drop i) acc' ω') ⟨acc, xs, ω, B, α, sb, Same.refl B, ⟨[], by simp⟩, ac, hP, by simpa using h⟩
    (fun i H' _ ⟨acc', xs', ω', B', α', sb', _, _, _, hp, _⟩ => (hI Φ H' σ ρ ω' _ sb'.st (fun p hp => List.mem_append_left _ hp) hp).1) (fun i v H2 H3 hi ⟨acc, xs, ω, B1, α1, sb, gB, gα, ac, hp, hl⟩ hy => ?_) (fun H' ⟨acc', xs', ω', B', α', sb', gB, gα, ac', hp, hl⟩ => ?_)
  · have sb0 : StB ⟨B1, H2, α1⟩ K B1 α1 H2 (wipe σ vs) (wipeD ρ vs) ω (T0 ++ T) := ⟨Frame.refl sb.fr.bh, sb.wd, sb.sl.wipe vs, sb.tm⟩
    have hx2 : XOk ⟨B1, H2, α1⟩ K x E := hx.step sb.fr
    obtain ⟨y1, hy1, st1⟩ := (hI _ H2 _ _ ω _ sb0.st (fun p hp => List.mem_append_left _ hp) hp).2 i v H3 hi hy
    have e : is.drop i = y1 :: is.drop (i + 1) := by
      obtain ⟨hn, e⟩ := List.getElem?_eq_some_iff.mp hy1
      rw [List.drop_eq_getElem_cons hn, e]
    rw [e] at hl
    -- back in the outer frame
    have back : ∀ {B' H' : Hp} {α' : List Addr} {ω' : Sto} {σ' : L2.St} {ρ' : Env} {U : List (V × S)}, StB ⟨B1, H2, α1⟩ K B' α' H' σ' ρ' ω' (U ++ (T0 ++ T)) → StB Φ K B' α' H' σ' ρ' ω' (U ++ (T0 ++ T)) ∧ Slots K α' B' σ ρ ∧ Same B B' ∧ (∃ β, α' = α ++ β) ∧ Acc K B' α' H' D xs acc := fun {B' H' α' ω' σ' ρ' U} s' => by
      obtain ⟨β, eβ, _⟩ := s'.fr.pre
      have eβ : α' = α1 ++ β := eβ
      obtain ⟨γ, eγ⟩ := gα
      exact ⟨⟨sb.fr.trans s'.fr, s'.wd, s'.sl, s'.tm⟩, sb.sl.mono s'.fr.bb ⟨β, eβ⟩, gB.trans s'.fr.bb, ⟨γ ++ β, by rw [eβ, eγ, List.append_assoc]⟩, acc_back (Φ := Φ) ac s'.fr⟩
    refine go v (wipe σ vs) H3 _ _ (h2 _ H3 _ _ ω _ v y1 _ (fun σ2 H4 => wipe σ2 vs = wipe (wipe σ vs) vs → tt σ2 H4 fun b H5 => if b = true then tl D σ2 H5 (fun H' => ∃ acc' xs' ω' B' α', StB Φ K B' α' H' σ ρ ω' (T0 ++ T) ∧ Same B B' ∧ (∃ β, α' = α ++ β) ∧ Acc K B' α' H' D xs' acc' ∧ P ω' ∧ lcT gd td d (wipeD ρ vs) P x fin (is.drop (i + 1)) acc' ω') else (fun H' => ∃ acc' xs' ω' B' α', StB Φ K B' α' H' σ ρ ω' (T0 ++ T) ∧ Same B B' ∧ (∃ β, α' = α ++ β) ∧ Acc K B' α' H' D xs' acc' ∧ P ω' ∧ lcT gd td d (wipeD ρ vs) P x fin (is.drop (i + 1)) acc' ω') H5) st1 List.mem_cons_self (fun σ2 H4 ρ2 ω2 hl st2 hw2 => ?_) hl) ?_
    rotate_left
    · have w2 : wipe (wipe σ vs) vs = wipe σ vs := wipe_idem fun _ h => h
      exact fun σ2 H4 a b => ⟨a.trans w2, b a⟩
    · refine h3 _ H4 σ2 ρ2 ω2 _ _ _ x st2 hx2 (fun b ω3 H5 hl st3 => ?_) hl
      obtain ⟨B', α', sb4⟩ := st3
      obtain ⟨sb5, sl5, gB5, gα5, ac5⟩ := back (U := [(v, y1)]) sb4
      cases b with
      | true =>
        rw [if_pos rfl] at hl ⊢
        refine h4 Φ D B' α' H5 σ2 ρ2 ω3 _ xs acc x _ _ nD sb5 ac5 hx (fun acc6 ω6 H6 B6 α6 xs6 sb6 gB6 gα6 ac6 hk => ?_) hl
        obtain ⟨β, eβ⟩ := gα5
        obtain ⟨γ, eγ⟩ := gα6
        exact ⟨acc6, xs6, ω6, B6, α6, ⟨sb6.fr, sb6.wd, sl5.mono gB6 ⟨γ, eγ⟩, fun p hp => sb6.tm p (List.mem_append_right _ hp)⟩, gB5.trans gB6, ⟨β ++ γ, by rw [eγ, eβ, List.append_assoc]⟩, ac6, hk.1, hk.2⟩
      | false =>
        rw [if_neg Bool.false_ne_true] at hl ⊢
        exact ⟨acc, xs, ω3, B', α', ⟨sb5.fr, sb5.wd, sl5, fun p hp => sb5.tm p (List.mem_append_right _ hp)⟩, gB5, gα5, ac5, hl.1, hl.2⟩
  · rw [List.drop_length] at hl
    exact hd _ _ _ _ _ _ sb' gB gα ac' hl
def dMid (it : TID) (gd : TGD) (td : TTD) (ws : List Nat) (tl : TLD) : TLD := fun ρ acc ω k x => it ρ ω (fun is P ω1 => P ω1 ∧ lcT gd td tl (wipeD ρ ws) P x k is acc ω1) x
theorem refTl_mid {wi : TI} {it : TID} {g : TG} {gd : TGD} {tt : TT} {td : TTD} {ws : List Nat} {tl : Addr → L2.St → Hp → (Hp → Prop) → Prop} {d : TLD} (h1 : RefI K E wi it) (h2 : RefG K g gd) (go : GO g ws) (h3 : RefT K E tt td) (h4 : RefTl K E tl d) :
    RefTl K E (fun D => tMid wi g tt ws (tl D)) (dMid it gd td ws d) := fun Φ D B α H σ ρ ω T xs acc x k N nD sb ac hx hk h => by
  have sb0 : StB ⟨B, H, α⟩ K B α H σ ρ ω T := ⟨Frame.refl sb.fr.bh, sb.wd, sb.sl, sb.tm⟩
  refine h1 _ H σ ρ ω T _ _ x sb0.st (hx.step sb.fr) (fun is P ω1 J H1 T0 hl ⟨B1, α1, sb1⟩ hI => ?_) h
  obtain ⟨hP, hl⟩ := hl
  have ac1 := acc_back (Φ := Φ) ac sb1.fr
  obtain ⟨β, eβ, _⟩ := sb1.fr.pre
  have eβ : α1 = α ++ β := eβ
  refine ref_turns (Φ := Φ) (T := T) hI h2 go h3 h4 nD ⟨sb.fr.trans sb1.fr, sb1.wd, sb1.sl, sb1.tm⟩ ac1 hx hP hl (fun acc' ω' H' B' α' xs' sb' gB gα ac' hf => ?_)
  obtain ⟨γ, eγ⟩ := gα
  exact hk acc' ω' H' B' α' xs' ⟨sb'.fr, sb'.wd, sb'.sl, fun p hp => sb'.tm p (List.mem_append_right _ hp)⟩ (sb1.fr.bb.trans gB) ⟨β ++ γ, by rw [eγ, eβ, List.append_assoc]⟩ ac' hf
def dLcN (it : TID) (gd : TGD) (td : TTD) (tl : TLD) (vs : List Nat) (fin : (S → Sto → Prop) → List S → Sto → Prop) : TD := fun ρ ω q x => it ρ ω (fun is P ω1 => P ω1 ∧ lcT gd td tl (wipeD ρ vs) P x (fin q) is [] ω1) x
theorem ref_lcN {wi : TI} {it : TID} {g : TG} {gd : TGD} {tt : TT} {td : TTD} {vs : List Nat} {tl : Addr → L2.St → Hp → (Hp → Prop) → Prop} {d : TLD} {fin : (S → Sto → Prop) → List S → Sto → Prop} (hf : FinOk K fin) (h1 : RefI K E wi it) (h2 : RefG K g gd) (go : GO g vs) (h3 : RefT K E tt td) (h4 : RefTl K E tl d) :
    Ref K E (tLcN wi g tt vs tl) (dLcN it gd td d vs fin) := fun Φ H σ ρ ω T q Q x s hx k h => h1 Φ H σ ρ ω T _ _ x s hx (fun is P ω1 J H1 T0 h st hI => by
  intro D hD
  obtain ⟨hp, h⟩ := h
  obtain ⟨B, α, sb⟩ := st
  have nD : Φ.H D = none := by
    by_cases m : D ∈ Φ.α
    · obtain ⟨β, eβ, _⟩ := sb.fr.pre
      obtain ⟨o, e⟩ := sb.wd.tr D (by rw [eβ]; simp [m])
      rw [hD] at e; cases e
    · cases z : Φ.H D with
      | none => rfl
      | some o => obtain ⟨o', z'⟩ := sb.fr.live m z; rw [z'] at hD; cases hD
  have nm := sb.wd.fresh hD
  have nb := sb.fr.bh.free hD
  have gH : Same H1 (upd H1 D (.lst [])) := fun b u q => by rw [upd_ne (ne_of_none q hD)]; exact q
  refine ref_turns (Φ := Φ) (T := T) (B := B) (α := α) (xs := []) (acc := []) hI h2 go h3 h4 nD ⟨⟨sb.fr.bb, sb.fr.bh.trans gH, fun b o m z => (sb.fr.hh b o m z).imp (gH _ _) (fun y => ⟨y.1, y.2.imp fun ps => gH _ _⟩), sb.fr.fr, sb.fr.pre⟩, ⟨sb.wd.tb.up (.inl hD) _, sb.wd.nd, sb.wd.len, fun a m => let ⟨o, e⟩ := sb.wd.tr a m; ⟨o, gH _ _ e⟩, fun j a c e1 e2 => ?_⟩, sb.sl, sb.tm⟩ ⟨nm, nb, upd_same, .nil⟩ hx hp h
    (fun acc' ω' H' B' α' xs' sb' gB gα ac' hl => hf Φ B' H' α' σ ρ ω' (T0 ++ T) D xs' acc' q Q sb' ac'.e ac'.na ac'.nb nD ac'.r (fun s ω' v H' hq hs => k s ω' v H' hq (hs.sub fun p hp => by
      rcases List.mem_cons.mp hp with rfl | hp
      · simp
      · simp [hp])) hl)
  have ne : a ≠ D := fun z => nm (z ▸ List.mem_of_getElem? e1)
  have := (sb.wd.cell j a c e1 e2).mono (β := []) (Same.refl B) id (H' := upd H1 D (.lst [])) (by rw [upd_ne ne])
  simpa using this) h
section
variable {e0 elt tg iter : Expr} {ifs : List Expr} {gs rest : List Comprehension} {scope : Scope} {pos : Pos} {k : Nat} {ws ws' : List Nat} {own : List (Str × Nat)} {wi : TI} {it : TID} {g : TG} {gd : TGD} {tt : TT} {td : TTD} {tl : Addr → L2.St → Hp → (Hp → Prop) → Prop} {d : TLD} {te : TE} {ed : TD}
theorem yb_last (he : PD X K E elt te ed) (hk : gs[k]? = none := by rfl) (hxe : X.xe = (fun _ _ => False) := by rfl) : PBD X K E e0 elt gs k [] (fun D σ H N => te σ H fun y H4 => ∃ acc, H4 D = some (.lst acc) ∧ acc.length < sizeLine ∧ N (upd H4 D (.lst (acc ++ [y])))) (dElt ed) :=
  ⟨fun D => pb_last hk hxe he.p, refTl_last he.r⟩
theorem yb_mid (h1 : PID X K E tg iter wi it) (go : GO g ws) (hg : PGD X K tg g gd) (ht : PTsD X K E ifs tt td) (hb : PBD X K E (.ListComp elt gs scope pos) elt gs (k + 1) ws' tl d) (hc : X.calm = true := by rfl) (hk : gs[k]? = some ⟨tg, iter, ifs, 0⟩ := by rfl) (hn : ∀ g, gs[k + 1]? = some g → g.is_async = 0 := by intro g h; cases h <;> rfl)
    (hxe : X.xe = (fun _ _ => False) := by rfl) (hs : ∀ env x, foldedSetIterable iter env x = pure x := by intro _ _; rfl) (hw : ∀ i ∈ ws', i ∈ ws := by decide) : PBD X K E (.ListComp elt gs scope pos) elt gs k ws (fun D => tMid wi g tt ws (tl D)) (dMid it gd td ws d) :=
  ⟨fun D => pb_mid hk hn hxe hc hs h1.p hg.p ht.p hw (hb.p D), refTl_mid h1.r hg.r go ht.r hb.r⟩
theorem y_lcN {fin : (S → Sto → Prop) → List S → Sto → Prop} (hf : FinOk K fin) (hc : X.calm = true) (hN : X.N.Nodup) (h1 : PID X K E tg iter wi it) (ok : BlkOk X.N X.env.scope scope own) (go : GO g (own.map (·.2)))
    (hg : ∀ (s : Shared) (H : Hp) (C : Addr) (cl : List (Str × Addr)) (fp : List Addr), PGD (X.blk s H scope (compEnvC scope cl C X.env) fp) K tg g gd) (ht : ∀ (s : Shared) (H : Hp) (C : Addr) (cl : List (Str × Addr)) (fp : List Addr), PTsD (X.blk s H scope (compEnvC scope cl C X.env) fp) K E ifs tt td)
    (hb : ∀ (s : Shared) (H : Hp) (C : Addr) (cl : List (Str × Addr)) (fp : List Addr), PBD (X.blk s H scope (compEnvC scope cl C X.env) fp) K E (.ListComp elt (⟨tg, iter, ifs, 0⟩ :: rest) scope pos) elt (⟨tg, iter, ifs, 0⟩ :: rest) 1 ws' tl d)
    (hw : ∀ i ∈ ws', i ∈ own.map (·.2) := by decide) (hn : ∀ g, rest[0]? = some g → g.is_async = 0 := by intro g h; cases h <;> rfl) (hs : ∀ x, foldedSetIterable iter X.env x = pure x := by intro _; rfl) :
    PD X K E (.ListComp elt (⟨tg, iter, ifs, 0⟩ :: rest) scope pos) (tLcN wi g tt (own.map (·.2)) tl) (dLcN it gd td d (own.map (·.2)) fin) :=
  ⟨pe_lcN hc hN h1.p ok hw hn (fun s H C cl fp => (hg s H C cl fp).p) (fun s H C cl fp => (ht s H C cl fp).p) (fun s H C cl fp D => (hb s H C cl fp).p D) hs,
    ref_lcN hf h1.r (hg {} (fun _ => none) 0 [] []).r go (ht {} (fun _ => none) 0 [] []).r (hb {} (fun _ => none) 0 [] []).r⟩
theorem y_setLcN {fin : (S → Sto → Prop) → List S → Sto → Prop} (hf : FinOk K fin) {i : Nat} {y : Str} {py spos : Pos} (hc : X.calm = true) (hN : X.N.Nodup) (hy : X.N[i]? = some y) (hyl : X.env.scope.names.lookup y = some .local)
    (hsw : swapsWith (.ListComp elt (⟨tg, iter, ifs, 0⟩ :: rest) scope pos) (some (.Name y py)) spos.line X.env = pure true) (h1 : PID X K E tg iter wi it) (ok : BlkOk X.N X.env.scope scope own) (go : GO g (own.map (·.2)))
    (hg : ∀ (s : Shared) (H : Hp) (C : Addr) (cl : List (Str × Addr)) (fp : List Addr), PGD (X.blk s H scope (compEnvC scope cl C X.env) fp) K tg g gd) (ht : ∀ (s : Shared) (H : Hp) (C : Addr) (cl : List (Str × Addr)) (fp : List Addr), PTsD (X.blk s H scope (compEnvC scope cl C X.env) fp) K E ifs tt td)
    (hb : ∀ (s : Shared) (H : Hp) (C : Addr) (cl : List (Str × Addr)) (fp : List Addr), PBD (X.blk s H scope (compEnvC scope cl C X.env) fp) K E (.ListComp elt (⟨tg, iter, ifs, 0⟩ :: rest) scope pos) elt (⟨tg, iter, ifs, 0⟩ :: rest) 1 ws' tl d)
    (hw : ∀ i ∈ ws', i ∈ own.map (·.2) := by decide) (hn : ∀ g, rest[0]? = some g → g.is_async = 0 := by intro g h; cases h <;> rfl) (hs : ∀ x, foldedSetIterable iter X.env x = pure x := by intro _; rfl) :
    PSD X K E (.Assign [.Name y py] (.ListComp elt (⟨tg, iter, ifs, 0⟩ :: rest) scope pos) spos) (tAsg (tLcN wi g tt (own.map (·.2)) tl) (gName i)) (dSet i (dLcN it gd td d (own.map (·.2)) fin)) :=
  ⟨ps_setLcN hc hN hy hyl hsw h1.p ok hw hn (fun s H C cl fp => (hg s H C cl fp).p) (fun s H C cl fp => (ht s H C cl fp).p) (fun s H C cl fp D => (hb s H C cl fp).p D) hs,
    fun Φ H σ ρ ω T En ed s l h => ref_lcN hf h1.r (hg {} (fun _ => none) 0 [] []).r go (ht {} (fun _ => none) 0 [] []).r (hb {} (fun _ => none) 0 [] []).r Φ H σ ρ ω T _ _ _ s l.x (fun s' ω' w H' h st => l.nx _ _ _ _ h (st.store i)) h⟩
end
end
end Y

set_option Elab.async false
set_option linter.all false
set_option maxRecDepth 100000
set_option maxHeartbeats 1000000
/-! dict comprehensions for keys of any kind -/
namespace XD
open PySem PySem.Spec PyProof.Rows L2
theorem d_dictSet' {X : Cx} {pins : List (Addr × Obj)} {σ : L2.St} {H : Hp} {s : Shared} {A : Around} {E : Value → Shared → Prop} {D : Addr} {kvs : List (Key × V)} {k : Key} {v : V} {u r : Value} {Q : Unit → Shared → Prop} (I : Inv X pins σ H s) (hD : H D = some (.dK kvs)) (hz : kvs.length < sizeLine)
    (ry : RelV (kV k) u) (rv : RelV v r) (h : ∀ s', Inv X pins σ (upd H D (.dK (putK kvs k v))) s' → Q () s') : wpAny (model X.prog X.w) A (dictSet D u r) Q E s := by
  obtain ⟨z, hd, vs, rel, dd⟩ := dk_of I.hok hD
  have hzv : vs.length ≤ sizeLine := by rw [← rel.length]; exact z
  have hl : (putK kvs k v).length ≤ sizeLine := by have := length_putK kvs k v; omega
  refine wpAny_dictSet_pairs (hsz := hzv) (kV_is ry) dd fun h' dd' hs => h _ ?_
  have he : ∃ q, h'.get? D = some q := let ⟨q, _, _, hq, _⟩ := dd'; ⟨q, hq⟩
  exact d_write I (by rw [hD]; exact True.intro) hs he (dk_new hl hd (rel.put k rv) dd')
theorem dset_ok {X : Cx} {pins : List (Addr × Obj)} {σ : L2.St} {H H' : Hp} {s : Shared} {A : Around} {E : Value → Shared → Prop} {a : Addr} {y v : V} {u r : Value} {Q : Unit → Shared → Prop} (hu : A.units + 2 < cLine) (I : Inv X pins σ H s) (g : XP.DPutY X.w H a y v H') (ry : RelV y u) (rv : RelV v r) (h : ∀ s', Inv X pins σ H' s' → Q () s') :
    wpAny (model X.prog X.w) A (dictSet a u r) Q E s := by
  rcases g with g | ⟨xs, k, b, e, ks, rfl, eb, l, rfl⟩
  · rcases g with ⟨kvs, k, e, rfl, l, rfl⟩ | ⟨kvs, kt, b, e, rfl, eb, l, rfl⟩
    · exact d_dictSet' I e l ry rv h
    · cases (show u = Value.ref b from ry)
      exact XP.t_dictSet (by omega) I e eb l rv h
  · cases (show u = Value.ref b from ry)
    exact XP.p_dictSet hu I e ks eb l rv h
section
variable {X : Cx}
/-- {k: v for target in iter if ..}, keys ints or texts: D the new dict -/
def tDcY (w : World) (start : Addr → HO) (wi : TI) (g : TG) (tt : TT) (tk tv : TE) (vs : List Nat) : TE := fun σ H Q => wi σ H fun J H1 => ∀ D, H1 D = none → ∃ W : Nat → Nat → Hp → Prop, (∃ m, W 0 m (upd H1 D (start D))) ∧ ∀ i m H, W i m H →
  (J.stop i H ∧ Q (.ref D) H) ∨ (J.go i H ∧ ∃ Nx : Hp → Prop, (∀ H', Nx H' → ∃ m', m' < m ∧ W (i + 1) m' H') ∧ ∀ x H', J.yld i H x H' → g x (wipe σ vs) H' fun σ2 H2 => wipe σ2 vs = wipe σ vs ∧ tt σ2 H2 fun b H3 =>
    if b = true then tk σ2 H3 fun y H4 => tv σ2 H4 fun z H5 => ∃ H6, XP.DPutY w H5 D y z H6 ∧ Nx H6 else Nx H3)
theorem dcY_core {start : Addr → HO} (hu : X.A.units + 2 < cLine) (hnew : ∀ (H : Hp) (h : Heap), sysModules < h.objs.size → ObjOk X.prog X.w H (h.push { cls := .type "dict", data := .dict #[] }) h.objs.size (start h.objs.size)) {pins : List (Addr × Obj)} {s : Shared} {σ : L2.St} {H : Hp} {Q : VK} {kx vx tg iter : Expr} {ifs : List Expr} {scope : Scope} {own : List (Str × Nat)} {pos pos' : Pos} {wi : TI} {g : TG} {tt : TT} {tk tv : TE} {use : Option (Value → Sem Unit)} {Qf : Value → Shared → Prop}
    (hc : X.calm = true) (hN : X.N.Nodup) (I : Inv X pins σ H s) (hi : PI X tg iter wi) (ok : BlkOk X.N X.env.scope scope own)
    (hg : ∀ (s : Shared) (H : Hp) (C : Addr) (cl : List (Str × Addr)) (fp : List Addr), PG (X.blk s H scope (compEnvC scope cl C X.env) fp) tg g) (ht : ∀ (s : Shared) (H : Hp) (C : Addr) (cl : List (Str × Addr)) (fp : List Addr), PTs (X.blk s H scope (compEnvC scope cl C X.env) fp) ifs tt)
    (hk : ∀ (s : Shared) (H : Hp) (C : Addr) (cl : List (Str × Addr)) (fp : List Addr), PE (X.blk s H scope (compEnvC scope cl C X.env) fp) kx tk)
    (he : ∀ (s : Shared) (H : Hp) (C : Addr) (cl : List (Str × Addr)) (fp : List Addr), PE (X.blk s H scope (compEnvC scope cl C X.env) fp) vx tv) (hs : ∀ x, foldedSetIterable iter X.env x = pure x)
    (h : tDcY X.w start wi g tt tk tv (own.map (·.2)) σ H Q)
    (hRR : ∀ D C s' m H', Inv X pins σ H' s' → Q (.ref D) H' → s'.heap.Ns C m → FpOk X pins H' C → compPost (model X.prog X.w) X.A X.xe use Qf (.ref D) C (.ok .next) s') :
    wpAny (model X.prog X.w) X.A (comprehension (.DictComp kx vx [⟨tg, iter, ifs, 0⟩] scope pos) scope X.env pos' newDict false (eval iter X.env) use) Qf X.xe s := by
  have hfree : ∀ y ∈ scope.names, y.2 = .free → ∃ c, X.env.cells.lookup y.1 = some c := fun y hy e => by
    rcases ok.free y hy e with k | k
    · exact I.ok.has _ (.inl k)
    · exact I.ok.has _ (.inr k)
  refine wpAny_comprehension_free (use := use) rfl hs (closure_ok hfree) ok.kind (fun y hy e => by rw [ok.uniq y hy, e])
    (thn (hi.run pins s σ H _ I h) fun xv s1 hx => thn hx fun itv s2 h2 => ?_)
  obtain ⟨it, fp, tn, J, H2, e, I2, T, st2, f2, q⟩ := h2
  subst e
  refine wpAny_newObj_type (newEnv_comp ?_)
  generalize hD : s2.heap.objs.size = D
  have hDn : H2 D = none := I2.hok.fresh (Nat.le_of_eq hD)
  obtain ⟨W, ⟨m0, w0⟩, turn⟩ := q D hDn
  -- the new list
  generalize hs3 : ({ s2 with heap := s2.heap.push { cls := .type "dict", data := .dict #[] } } : Shared) = s3
  have I3 : Inv X pins σ (upd H2 D (start D)) s3 := by
    rw [← hs3]
    refine I2.laid (t' := s2.toks) (fun b o e => Heap.get?_push_of_some _ e) (Nat.le_of_eq hD) ?_
    rw [← hD]
    exact hnew _ s2.heap I2.big
  have h3 : s3.heap = s2.heap.push { cls := .type "dict", data := .dict #[] } := by rw [← hs3]
  have sz : ∀ b ∈ fp, b < s2.heap.objs.size := fun b hb => by
    obtain ⟨o, e, _⟩ := T.obj _ _ st2 b hb
    exact Heap.lt_size e
  have f3 : ∀ b ∈ fp, FpOk X pins (upd H2 D (start D)) b ∧ b < s3.heap.objs.size := fun b hb => by
    have hlt := sz b hb
    refine ⟨⟨?_, (f2 b hb).2⟩, by rw [h3, Heap.size_push]; exact Nat.lt_succ_of_lt hlt⟩
    rw [upd_ne (by rw [← hD]; exact Nat.ne_of_lt hlt)]
    exact (f2 b hb).1
  have st3 : tn 0 s3.heap := T.keep _ _ _ st2 fun b _ o e => by rw [h3]; exact Heap.get?_push_of_some _ e
  have I4 := block_start I3 ok hN f3
  have pg := hg s3 (upd H2 D (start D)) s3.heap.objs.size (cellsFrom (s3.heap.objs.size + 1) scope.names (cloFrom X.env.cells scope.names [])) fp
  have pt := ht s3 (upd H2 D (start D)) s3.heap.objs.size (cellsFrom (s3.heap.objs.size + 1) scope.names (cloFrom X.env.cells scope.names [])) fp
  have pk := hk s3 (upd H2 D (start D)) s3.heap.objs.size (cellsFrom (s3.heap.objs.size + 1) scope.names (cloFrom X.env.cells scope.names [])) fp
  have pe := he s3 (upd H2 D (start D)) s3.heap.objs.size (cellsFrom (s3.heap.objs.size + 1) scope.names (cloFrom X.env.cells scope.names [])) fp
  show codeAny _ _ (.compStart (.DictComp kx vx [⟨tg, iter, ifs, 0⟩] scope pos) 0 (.ref it) (.ref D) (compEnvC scope (cellsFrom (s3.heap.objs.size + 1) scope.names (cloFrom X.env.cells scope.names [])) s3.heap.objs.size X.env)) (compPost (model X.prog X.w) X.A X.xe use Qf (.ref D) s3.heap.objs.size) { s3 with heap := pushCells (s3.heap.push { cls := .type "dict", data := .dict #[] }) scope.names }
  have nfp : ∀ b ∈ fp, (upd H2 D (start D)) b = none := fun b hb => (f3 b hb).1.1
  generalize hce : compEnvC scope (cellsFrom (s3.heap.objs.size + 1) scope.names (cloFrom X.env.cells scope.names [])) s3.heap.objs.size X.env = ce at I4 pg pt pk pe ⊢
  have cL : ce.locals = s3.heap.objs.size := by subst hce; rfl
  generalize hH3 : upd H2 D (start D) = H3 at I3 I4 pg pt pk pe w0 nfp f3
  generalize hs4 : ({ s3 with heap := pushCells (s3.heap.push { cls := .type "dict", data := .dict #[] }) scope.names } : Shared) = s4 at I4 ⊢
  have st4 : tn 0 s4.heap := T.keep _ _ _ st3 fun b _ o e => by rw [← hs4]; exact pushCells_keeps _ _ _ _ (Heap.get?_push_of_some _ e)
  have stat : ∀ {σ' : L2.St} {H' : Hp} {s' : Shared}, Inv (X.blk s3 H3 scope ce fp) [] σ' H' s' → (∀ b ∈ fp, H' b = none) → ∀ b ∈ fp, FpOk (X.blk s3 H3 scope ce fp) [] H' b := fun {σ' H' s'} I' hn b hb =>
    ⟨hn b hb, (I'.ok.exf b hb).1, I'.ok.exfs b hb, .inl hb, fun x c e => (I'.ok.exf b hb).2 x c e, fun p hp => absurd (show p ∈ ([] : List (Addr × Obj)) ++ [] from hp) (by simp)⟩
  have loop : codeAny (model X.prog X.w) X.A (.compLoop (.DictComp kx vx [⟨tg, iter, ifs, 0⟩] scope pos) 0 (.ref it) (.ref D) ce) (compPost (model X.prog X.w) X.A X.xe use Qf (.ref D) s3.heap.objs.size) s4 := by
    refine compLoop_anyD (fun n s' => ∃ i H', Inv (X.blk s3 H3 scope ce fp) [] (wipe σ (own.map (·.2))) H' s' ∧ tn i s'.heap ∧ (∀ b ∈ fp, H' b = none) ∧ W i n H') ?_ m0 ⟨0, H3, I4, st4, nfp, w0⟩
    rintro n s5 ⟨i, H5, I5, st5, n5, w5⟩
    rcases turn i n H5 w5 with ⟨stop, qq⟩ | ⟨go, Nx, hNx, step⟩
    · have td := T.done (X.blk s3 H3 scope ce fp) rfl rfl rfl hc i [] s5 _ H5 (fun _ _ => False) I5 (stat I5 n5) st5 stop
      refine thnF td fun r s6 ⟨hr, I6⟩ => ?_
      subst hr
      -- back in the def's context
      have I7 : Inv X pins σ H5 s6 := I3.call' (ch := fp) I6.os I6.base I6.hok I6.bare fun b hb => ⟨(f3 b hb).1.2.2.2.1, (f3 b hb).1.2.1, (f3 b hb).1.2.2.2.2.1, (f3 b hb).1.2.2.2.2.2⟩
      have nC : H5 s3.heap.objs.size = none := by
        have z : H5 ce.locals = none := I6.free
        rw [cL] at z
        exact z
      obtain ⟨m, hn, _⟩ := I6.loc
      have hn : s6.heap.Ns ce.locals m := hn
      rw [cL] at hn
      exact hRR D s3.heap.objs.size s6 m H5 I7 qq hn (I3.fpOk (Nat.le_refl _) nC)
    · have ti := T.item (X.blk s3 H3 scope ce fp) rfl rfl rfl hc i [] s5 _ H5 (fun _ _ => False) I5 (stat I5 n5) st5 go
      refine thnF ti fun r s6 ⟨u, hr, h6⟩ => ?_
      subst hr
      refine thnF h6 fun _ s7 ⟨x, H7, I7, r7, y7, st7, n7⟩ => ?_
      have I7' := I7.pinned (stat I7 n7) (T.obj _ _ st7)
      refine thnF (pg.run _ s7 _ H7 x u _ I7' r7 (step x H7 y7)) fun _ s8 ⟨σ8, H8, I8, hw8, q8⟩ => ?_
      refine thnF (pt.run _ s8 σ8 H8 _ I8 q8) fun b s9 ⟨H9, I9, q9⟩ => ?_
      -- the turn's end
      have fin : ∀ {s' : Shared} {H' : Hp}, Inv (X.blk s3 H3 scope ce fp) ([] ++ pinsAt fp s7.heap) σ8 H' s' → Nx H' → ∃ m, m < n ∧ ∃ i H', Inv (X.blk s3 H3 scope ce fp) [] (wipe σ (own.map (·.2))) H' s' ∧ tn i s'.heap ∧ (∀ b ∈ fp, H' b = none) ∧ W i m H' := fun {s' H'} I' nx => by
        obtain ⟨m', hm, w'⟩ := hNx H' nx
        have pin' : ∀ b ∈ fp, ∀ o, s7.heap.get? b = some o → s'.heap.get? b = some o ∧ H' b = none := fun b hb o e =>
          let z := I'.pin (b, o) (List.mem_append_right _ (List.mem_append_right _ (mem_pinsAt hb e)))
          ⟨z.1, z.2.1⟩
        have hl : (wipe σ (own.map (·.2))).length = σ8.length := by rw [← hw8, wipe_length]
        refine ⟨m', hm, i + 1, H', (I'.unpinned (pins := [])).weak hl (fun j v e => ?_), T.keep _ _ _ st7 fun b hb o e => (pin' b hb o e).1, fun b hb => ?_, w'⟩
        · rw [← hw8] at e
          exact (wipe_some e).1
        · obtain ⟨o, e, _⟩ := T.obj _ _ st7 b hb
          exact (pin' b hb o e).2
      cases b with
      | false =>
        simp only [Bool.false_eq_true, if_false] at q9 ⊢
        exact fin I9 q9
      | true =>
        simp only [if_true] at q9 ⊢
        refine thnF (pk.run _ s9 σ8 H9 _ I9 q9) fun z s10 ⟨yk, H10, I10, r10, q10⟩ => ?_
        refine thnF (pe.run _ s10 σ8 H10 _ I10 q10) fun z2 s11 ⟨yv, H11, I11, r11, H12, dp, nx⟩ => ?_
        exact dset_ok (X := X.blk s3 H3 scope ce fp) hu I11 dp r10 r11 fun s12 I12 => fin I12 nx
  exact codeAny_compStart_dict loop (T.self X.A 0 _ _ _ st4 loop)
/-- as a value -/
theorem pe_dcY {start : Addr → HO} (hu : X.A.units + 2 < cLine) (hnew : ∀ (H : Hp) (h : Heap), sysModules < h.objs.size → ObjOk X.prog X.w H (h.push { cls := .type "dict", data := .dict #[] }) h.objs.size (start h.objs.size)) {kx vx tg iter : Expr} {ifs : List Expr} {scope : Scope} {own : List (Str × Nat)} {pos : Pos} {wi : TI} {g : TG} {tt : TT} {tk tv : TE} (hc : X.calm = true) (hN : X.N.Nodup) (hi : PI X tg iter wi) (ok : BlkOk X.N X.env.scope scope own)
    (hg : ∀ (s : Shared) (H : Hp) (C : Addr) (cl : List (Str × Addr)) (fp : List Addr), PG (X.blk s H scope (compEnvC scope cl C X.env) fp) tg g) (ht : ∀ (s : Shared) (H : Hp) (C : Addr) (cl : List (Str × Addr)) (fp : List Addr), PTs (X.blk s H scope (compEnvC scope cl C X.env) fp) ifs tt)
    (hk : ∀ (s : Shared) (H : Hp) (C : Addr) (cl : List (Str × Addr)) (fp : List Addr), PE (X.blk s H scope (compEnvC scope cl C X.env) fp) kx tk)
    (he : ∀ (s : Shared) (H : Hp) (C : Addr) (cl : List (Str × Addr)) (fp : List Addr), PE (X.blk s H scope (compEnvC scope cl C X.env) fp) vx tv) (hs : ∀ x, foldedSetIterable iter X.env x = pure x := by intro _; rfl) :
    PE X (.DictComp kx vx [⟨tg, iter, ifs, 0⟩] scope pos) (tDcY X.w start wi g tt tk tv (own.map (·.2))) := by
  refine ⟨fun pins s σ H Q I h => ?_⟩
  rw [arm_eval_DictComp]
  refine dcY_core hu hnew hc hN I hi ok hg ht hk he hs h fun D C s' m H' I' q hn f => ⟨m, hn, fun h'' sb => ?_⟩
  obtain ⟨f0, f1, f2, f3, f4, f5⟩ := f
  exact ⟨.ref D, H', I'.turned (t' := s'.toks) (fun b o hb e => (sb.2 b hb).trans e) f0 f1 f3 f4 f5, rfl, q⟩
end
end XD

set_option Elab.async false
set_option linter.all false
set_option maxRecDepth 100000
set_option maxHeartbeats 1000000
/-! t[::-1], t a tuple -/
namespace HT
open PySem PySem.Spec PyProof.Rows
section
variable {prog : Program} {w : World} {A : Around} {E : Value → Shared → Prop} {s : Shared}
theorem adjust_rev (n : Nat) : Builtin.Slice.sliceAdjust none none (-1) (n : Int) = ((n : Int) - 1, -1) := by
  unfold Builtin.Slice.sliceAdjust
  first | rfl | simp
theorem places_rev (n : Nat) : Builtin.Slice.slicePlaces ((n : Int) - 1) (-1) (-1) = n := by
  unfold Builtin.Slice.slicePlaces
  have h1 : ¬ ((-1 : Int) > 0) := by decide
  simp only [h1, if_false]
  first
  | omega
  | (split <;> omega)
  | (split <;> (simp; try omega))
theorem sliceApplied_rev {sl : Addr} {vl vu vs : Value} {n : Nat} {Q : Int × Int × Nat → Shared → Prop} (hs : s.heap.IsSliceOf sl vl vu vs) (pl : IsPart vl none) (pu : IsPart vu none) (ps : IsPart vs (some (-1)))
    (h : Q ((n : Int) - 1, -1, n) s) : wpAny (model prog w) A (Builtin.Slice.sliceApplied (.ref sl) (pure (n : Int))) Q E s := by
  obtain ⟨os, hos, hcs, hds⟩ := id hs
  unfold Builtin.Slice.sliceApplied Builtin.Slice.sliceFields
  refine wpAny_bind (wpAny_bind (wpAny_field hos hds (x := vl) rfl (wpAny_bind (wpAny_field hos hds (x := vu) rfl (wpAny_bind (wpAny_field hos hds (x := vs) rfl (wpAny_pure ?_)))))))
  refine wpAny_bind (slicePart_ ps ?_)
  show wpAny _ _ (if ((-1 : Int) == 0) = true then _ else _) _ _ s
  rw [if_neg (by decide)]
  refine wpAny_bind (slicePart_ pl (wpAny_bind (slicePart_ pu (wpAny_bind (wpAny_pure ?_)))))
  show wpAny _ _ (match Builtin.Slice.sliceAdjust none none (-1) (n : Int) with | (lo, hi) => pure (lo, (-1 : Int), Builtin.Slice.slicePlaces lo hi (-1))) _ _ s
  rw [adjust_rev n]
  show wpAny _ _ (pure ((n : Int) - 1, (-1 : Int), Builtin.Slice.slicePlaces ((n : Int) - 1) (-1) (-1))) _ _ s
  rw [places_rev]
  exact wpAny_pure h
theorem fm_congr {α β : Type} {f g : α → Option β} : ∀ {l : List α}, (∀ x ∈ l, f x = g x) → l.filterMap f = l.filterMap g
  | [], _ => rfl
  | x :: l, h => by rw [List.filterMap_cons, List.filterMap_cons, h x (by simp), fm_congr fun y hy => h y (by simp [hy])]
theorem pick_rev (xs : Array Value) : ((List.range xs.size).filterMap fun (m : Nat) => xs[(((xs.size : Int) - 1) + (m : Int) * (-1)).toNat]?).toArray = xs.toList.reverse.toArray := by
  congr 1
  have e : (List.range xs.size).filterMap (fun (m : Nat) => xs[(((xs.size : Int) - 1) + (m : Int) * (-1)).toNat]?) = ((List.range xs.size).map fun k => xs.size - 1 - k).filterMap (xs[·]?) := by
    rw [List.filterMap_map]
    refine fm_congr fun m hm => ?_
    have := List.mem_range.mp hm
    have z : (((xs.size : Int) - 1) + (m : Int) * (-1)).toNat = xs.size - 1 - m := by omega
    rw [z]
    rfl
  rw [e, PySem.W.krv_range, List.filterMap_reverse, PySem.W.krv_all]
theorem getItem_tuple_rev {t sl : Addr} {items : Array Value} {vl vu vs : Value} {Q : Value → Shared → Prop} (ht : IsTup s.heap t items) (hs : s.heap.IsSliceOf sl vl vu vs) (pl : IsPart vl none) (pu : IsPart vu none) (ps : IsPart vs (some (-1)))
    (h : Q (.ref s.heap.objs.size) { s with heap := s.heap.push { cls := .type "tuple", data := .seq items.toList.reverse.toArray } })
    (hsz : items.size ≤ sizeLine) : wpAny (model prog w) A (getItem (.ref t) (.ref sl)) Q E s := by
  have htake : sizeOk (.seq items.toList.reverse.toArray) := by
    show items.toList.reverse.toArray.size ≤ sizeLine
    rw [List.size_toArray, List.length_reverse, Array.length_toList]
    exact hsz
  obtain ⟨os, hos, hcs, hds⟩ := id hs
  have hTs : s.TypeIs (.ref sl) "slice" := ⟨os, hos, hcs⟩
  unfold getItem
  try with_reducible refine wpAny_holding ?_
  first | refine wpAny_bind (wpAny_pure ?_) | skip
  refine wpAny_bind (wpAny_sequenceKey ht.typeIs (by decide) ?_)
  refine wpAny_bind (wpAny_callSpecial?_slot (name := Str.ofString "__getitem__") ht.typeIs PyProof.Rows.slot_tuple_getitem
    (wpAny_call_entry PyProof.Rows.slot_tuple_getitem ht.typeIs entry_tuple_getitem ?_ (args_tuple_getitem _ _)))
  show wpAny _ _ (Builtin.Tuple.tupleItemsOf (.ref t) >>= _) _ _ s
  refine wpAny_bind (tupleItemsOf_ ht ?_)
  refine wpAny_bind (wpAny_typeOf hTs ?_)
  rw [if_pos (by decide)]
  refine wpAny_bind (sliceApplied_rev hs pl pu ps ?_)
  have hno : ¬ ((((items.size : Int) - 1) == 0 && (-1 : Int) == 1 && items.size == items.size) = true) := by
    intro q
    rw [Bool.and_eq_true, Bool.and_eq_true] at q
    exact absurd q.1.2 (by decide)
  show wpAny _ _ (if (((items.size : Int) - 1) == 0 && (-1 : Int) == 1 && items.size == items.size) = true then _ else _) _ _ s
  rw [if_neg hno, pick_rev]
  first
    | exact wpAny_bind (m := Builtin.Tuple.tupleExact _) (wpAny_newObj_type (wpAny_pure ⟨_, rfl, wpAny_pure h⟩) htake)
    | exact wpAny_bind (m := Builtin.Tuple.tupleExact _) (wpAny_newObj_type (wpAny_bind (wpAny_pure (wpAny_pure ⟨_, rfl, wpAny_pure h⟩))) htake)
    | exact wpAny_bind (wpAny_bind (m := Builtin.Tuple.tupleExact _) (wpAny_newObj_type (wpAny_pure (wpAny_pure ⟨_, rfl, wpAny_pure h⟩)) htake))
    | exact wpAny_bind (wpAny_bind (m := Builtin.Tuple.tupleExact _) (wpAny_newObj_type (wpAny_pure ⟨_, rfl, wpAny_pure h⟩) htake))
end
end HT
namespace L2
open PySem PySem.Spec PyProof.Rows
def tRevT (K : PySem.W.Frag) (te : TE) : TE := fun σ H Q => te σ H fun x H1 => ∃ a xs, x = .ref a ∧ SqT K H1 a xs ∧ ∀ p, H1 p = none → Q (.ref p) (upd H1 p (.tup xs.reverse))
theorem pe_revT {X : Cx} {e : Expr} {te : TE} {k : Nat} {p1 p2 p3 pos : Pos} (he : PE X e te) : PE X (.Subscript e (.Slice none none (some (.UnaryOp .USub (.Constant (.int 1) k p1) p2)) p3) pos) (tRevT X.K te) := by
  refine ⟨fun pins s σ H Q I h => ?_⟩
  refine Subscript_ (thn (he.run pins s σ H _ I h) fun v s1 ⟨x, H1, I1, r1, q1⟩ => ?_)
  obtain ⟨a, xs, ex, hx, q⟩ := q1
  subst ex
  cases r1
  have hst : PO X (some (.UnaryOp .USub (.Constant (.int 1) k p1) p2)) (tPart (tUn (rU fun i => .int (-i)) (tC (.int 1)))) := po_some (pe_un un_neg pe_int)
  refine wpAny_Slice (thn (po_none.run pins s1 σ H1 (fun o H2 => o = none ∧ H2 = H1) I1 ⟨rfl, rfl⟩) fun vl s2 ⟨l, H2, I2, pl, el, e2⟩ => ?_)
  subst el e2
  refine thn (po_none.run pins s2 σ H2 (fun o H3 => o = none ∧ H3 = H2) I2 ⟨rfl, rfl⟩) fun vu s3 ⟨u, H3, I3, pu, eu, e3⟩ => ?_
  subst eu e3
  refine thn (hst.run pins s3 σ H3 (fun o H4 => o = some (-1) ∧ H4 = H3) I3 ⟨1, rfl, -1, rfl, rfl, rfl⟩) fun vs s4 ⟨o, H4, I4, ps, eo, e4⟩ => ?_
  subst eo e4
  have I5 : Inv X pins σ H4 { s4 with heap := s4.heap.push { cls := .type "slice", data := .fields #[vl, vu, vs] } } := I4.kept (t' := s4.toks) fun b ob q => Heap.get?_push_of_some _ q
  obtain ⟨its, r, ht, hz⟩ := I5.tuple hx
  have hlen := r.length
  show wpAny (model X.prog X.w) X.A (subscriptTail e (.Slice none none (some (.UnaryOp .USub (.Constant (.int 1) k p1) p2)) p3) (.ref a) (.ref s4.heap.objs.size)) (EP X pins σ Q) X.xe { s4 with heap := s4.heap.push { cls := .type "slice", data := .fields #[vl, vu, vs] } }
  refine tail_any (ops := [.ref a, .ref s4.heap.objs.size]) ht.typeIs (PyProof.Rows.slot_tuple_getitem.lookup) ?_ (by with_unfolding_all rfl)
  refine HT.getItem_tuple_rev ht (Heap.IsSliceOf.new _ vl vu vs) pl pu ps ?_ (by rw [List.size_toArray]; omega)
  refine ⟨.ref _, _, I5.laid (t' := s4.toks) (o := .tup xs.reverse) (fun b ob q => Heap.get?_push_of_some _ q) (Nat.le_refl _) ?_, rfl, q _ (I5.hok.fresh (Nat.le_refl _))⟩
  exact ⟨by rw [List.length_reverse]; exact hz, _, r.reverse, ⟨_, Heap.get?_push_size _ rfl, rfl, _, rfl⟩⟩
end L2

set_option Elab.async false
set_option linter.all false
set_option maxRecDepth 100000
/-! set(t) of a tuple of texts, and sorted of such a set -/
namespace XS
open PySem PySem.Spec PyProof.Rows L2

def txtOf (e : Int × Value) : Str := match e.2 with | .str k _ => k | _ => Str.empty
def TxtE (w : World) (e : Int × Value) : Prop := ∃ k tk, e.2 = Value.str k tk ∧ e.1 = hashStr w k
structure SetX (w : World) (h : Heap) (a : Addr) (L : List Str) : Prop where
  ex : ∃ o es ep t, h.get? a = some o ∧ o.ExactSet ∧ o.data = .set es ep t ∧ (∀ e ∈ es.toList, TxtE w e) ∧ (es.toList.map txtOf).Perm L ∧ es.size < scanBound ∧ t.fits es.size = true ∧ Ris t.place.toList ∧
    (w.params.followText "set-order" = true ∨ t.led = true)
  nd : L.Nodup
section
variable {P : Program} {w : World} {h h' : Heap} {a : Addr} {L : List Str}
theorem SetX.at' (R : SetX w h a L) (k : ∀ o, h.get? a = some o → h'.get? a = some o) : SetX w h' a L := by
  obtain ⟨⟨o, es, ep, t, ho, r⟩, nd⟩ := R
  exact ⟨⟨o, es, ep, t, k o ho, r⟩, nd⟩
theorem txt_elems {l : List (Int × Value)} (g : ∀ e ∈ l, TxtE w e) : ElemsOf (PySem.strKind P w) l := fun e he => by
  obtain ⟨k, tk, e1, e2⟩ := g e he
  exact ⟨⟨k, by rw [e1]; exact strKind_is P w k tk, e2⟩, by rw [e1] <;> rfl⟩
theorem txt_is {e : Int × Value} (g : TxtE w e) (k : Str) : (PySem.strKind P w).is k e.2 = true ↔ txtOf e = k := by
  obtain ⟨k0, tk, e1, _⟩ := g
  have his : (PySem.strKind P w).is k0 e.2 = true := by rw [e1]; exact strKind_is P w k0 tk
  have ht : txtOf e = k0 := by unfold txtOf; rw [e1]
  rw [KeyKind.is_eq_decide his k, decide_eq_true_eq, ht]
  exact ⟨fun z => z.symm, fun z => z.symm⟩
end
section
variable {P : Program} {w : World} {A : Around} {E : Value → Shared → Prop} {s : Shared} {a : Addr} {L : List Str}
theorem addX_tail {g : Bool → Sem Unit} (hg : ∀ (b : Bool) (s1 : Shared) (Q' : Unit → Shared → Prop), Q' () s1 → wpAny (model P w) A (g b) Q' E s1)
    {o : Obj} {es : Array (Int × Value)} {ep : Nat} {t : SetTable} (ho : s.heap.get? a = some o) (hex : o.ExactSet) (hd : o.data = .set es ep t)
    {es1 : Array (Int × Value)} {t2 : SetTable} {L1 : List Str} (g1 : ∀ e ∈ es1.toList, TxtE w e) (p1 : (es1.toList.map txtOf).Perm L1) (n1 : L1.Nodup)
    (hb1 : es1.size < scanBound) (hf2 : t2.fits es1.size = true) (hr : Ris t2.place.toList) (hl : w.params.followText "set-order" = true ∨ t2.led = true) {dum : Bool} {R : Option Bool → Shared → Prop}
    (hR : ∀ h', Heap.SameBut a s.heap h' → SetX w h' a L1 → R (some true) { s with heap := h' }) :
    wpAny (model P w) A (do
        storeSet a es1 t2
        if (!dum && t2.tooFull) = true then do
            g (relayAll t2 es1 (SetTable.grown es1.size)).2.2
            storeSet a (relayAll t2 es1 (SetTable.grown es1.size)).1 (relayAll t2 es1 (SetTable.grown es1.size)).2.1
            pure (some true)
          else pure (some true)) R E s := by
  refine wpAny_bind (wpAny_storeSet_of ho hd ?_ (fits_of_scanBound hb1))
  have ho1 := store_at (es' := es1) (t' := t2) ho hd
  have sb1 := Heap.SameBut.update s.heap a (Obj.putSet es1 t2)
  split
  · have q1 := relayAll_perm t2 es1 (SetTable.grown es1.size)
    have q2 := relayAll_fits t2 es1 (SetTable.grown es1.size)
    have q3 := relayAll_ris t2 es1 (SetTable.grown es1.size)
    have q4 := relayAll_led t2 es1 (SetTable.grown es1.size)
    revert q1 q2 q3 q4
    generalize relayAll t2 es1 (SetTable.grown es1.size) = Z
    obtain ⟨es2, t3, gave⟩ := Z
    intro q1 q2 q3 q4
    dsimp only at q1 q2 q3 q4 ⊢
    have hsz : es2.size = es1.size := by rw [← Array.length_toList, q1.length_eq, Array.length_toList]
    have hb2 : es2.size < scanBound := by rw [hsz]; exact hb1
    refine wpAny_bind (hg _ _ _ (wpAny_bind (wpAny_storeSet_of ho1 rfl ?_ (fits_of_scanBound hb2))))
    refine wpAny_pure (hR _ (sb1.trans (Heap.SameBut.update _ a _)) ⟨⟨_, es2, _, t3, store_at (es' := es2) (t' := t3) ho1 rfl, hex, rfl, fun e he => g1 e (q1.mem_iff.mp he), (q1.map txtOf).trans p1, hb2, q2, q3, ?_⟩, n1⟩)
    rw [q4]
    exact hl
  · exact wpAny_pure (hR _ sb1 ⟨⟨_, es1, _, t2, ho1, hex, rfl, g1, p1, hb1, hf2, hr, hl⟩, n1⟩)

theorem addX_hashed {k : Str} {tk : Tok} {Q : Bool → Shared → Prop} (R : SetX w s.heap a L) (room : L.length + 1 < scanBound)
    (hQ : ∀ h' b, Heap.SameBut a s.heap h' → SetX w h' a (if k ∈ L then L else k :: L) → Q b { s with heap := h' }) :
    wpAny (model P w) A (setAddHashed a (.str k tk) ((PySem.strKind P w).hash k)) Q E s := by
  obtain ⟨⟨o, es, ep, t, ho, hex, hd, g, pm0, hb, hf, hr, hl⟩, nd⟩ := R
  have hlen : es.size = L.length := by rw [← pm0.length_eq, List.length_map, Array.length_toList]
  have hkey : (PySem.strKind P w).is k (.str k tk) = true := strKind_is P w k tk
  have hsc : (Value.str k tk).scannable = true := rfl
  have hel : ElemsOf (PySem.strKind P w) es.toList := txt_elems g
  unfold setAddHashed setAddHashedIn
  refine wpAny_holding (wpAny_bind (wpAny_setState_of ho hd hf ?_))
  dsimp only
  rw [byScan_of hsc hb hel]
  simp only [↓reduceIte]
  unfold setAddByScan
  refine wpAny_bind (wpAny_bind (wpAny_rule (wpAny_bind (wpAny_setScan_of hkey ho hd hf hel ?_))))
  cases hfi : List.findIdx? (fun e => (PySem.strKind P w).is k e.2) es.toList with
  | some j =>
    dsimp only
    obtain ⟨hj, pj, _⟩ := List.findIdx?_eq_some_iff_getElem.mp hfi
    have hm : k ∈ L := pm0.mem_iff.mp (List.mem_map.mpr ⟨es.toList[j], List.getElem_mem hj, (txt_is (P := P) (g _ (List.getElem_mem hj)) k).1 pj⟩)
    refine wpAny_pure (wpAny_pure (hQ s.heap _ (Heap.SameBut.refl a s.heap) ?_))
    rw [if_pos hm]
    exact ⟨⟨o, es, ep, t, ho, hex, hd, g, pm0, hb, hf, hr, hl⟩, nd⟩
  | none =>
    dsimp only
    have hnk : k ∉ L := fun z => by
      obtain ⟨e, he, q⟩ := List.mem_map.mp (pm0.mem_iff.mpr z)
      have c := List.findIdx?_eq_none_iff.mp hfi e he
      rw [(txt_is (P := P) (g e he) k).2 q] at c
      cases c
    have hgw : ∀ (b : Bool) {s1 : Shared} {Q' : Unit → Shared → Prop}, Q' () s1 → wpAny (model P w) A (match b with | true => rule "set.scan.the-table-gave-way" | false => pure ()) Q' E s1 :=
      fun b s1 Q' q => by cases b <;> first | exact wpAny_pure q | exact wpAny_rule q
    have q1 := layNew_perm t es ((PySem.strKind P w).hash k) (.str k tk)
    have q2 := layNew_fits t es ((PySem.strKind P w).hash k) (.str k tk)
    have q3 := layNew_ris t es ((PySem.strKind P w).hash k) (.str k tk) hr
    have q4 := layNew_led t es ((PySem.strKind P w).hash k) (.str k tk)
    revert q1 q2 q3 q4
    generalize layNew t es ((PySem.strKind P w).hash k) (.str k tk) = Z
    obtain ⟨es1, t1, dum, gave⟩ := Z
    intro q1 q2 q3 q4
    dsimp only at q1 q2 q3 q4 ⊢
    rw [Array.toList_push] at q1
    have pc : es1.toList.Perm (((PySem.strKind P w).hash k, Value.str k tk) :: es.toList) := q1.trans (List.perm_append_singleton _ _)
    have p1 : (es1.toList.map txtOf).Perm (k :: L) := (pc.map txtOf).trans (pm0.cons k)
    have g1 : ∀ e ∈ es1.toList, TxtE w e := fun e he => by
      rcases List.mem_cons.mp (pc.mem_iff.mp he) with z | z
      · rw [z]; exact ⟨k, tk, rfl, rfl⟩
      · exact g e z
    have n1 : (k :: L).Nodup := List.nodup_cons.mpr ⟨hnk, nd⟩
    have hsz : es1.size = L.length + 1 := by rw [← Array.length_toList, pc.length_eq, List.length_cons, Array.length_toList, hlen]
    have hb1 : es1.size < scanBound := by rw [hsz]; exact room
    have hled : w.params.followText "set-order" = true ∨ t1.led = true := by rw [q4]; exact hl
    have fin : ∀ h' b, Heap.SameBut a s.heap h' → SetX w h' a (k :: L) → Q b { s with heap := h' } := fun h' b sb r => hQ h' b sb (by rw [if_neg hnk]; exact r)
    refine wpAny_bind (hgw _ ?_)
    split
    · refine wpAny_bind ?_
      rw [hashByValue_scannable 8 hsc]
      refine wpAny_pure ?_
      refine addX_tail ?_ ho hex hd g1 p1 n1 hb1 ?_ ?_ ?_ ?_
      · intro b s1 Q' q; cases b <;> first | exact wpAny_pure q | exact wpAny_rule q
      · first | (split <;> first | exact q2 | exact SetTable.fits_plain_off q2) | exact q2
      · first | (split <;> exact q3) | exact q3
      · first | (split <;> exact hled) | exact hled
      · intro h' sb r; dsimp only; exact wpAny_pure (fin h' _ sb r)
    · refine wpAny_bind (wpAny_pure ?_)
      simp only [↓reduceIte]
      refine addX_tail ?_ ho hex hd g1 p1 n1 hb1 q2 q3 hled ?_
      · intro b s1 Q' q; cases b <;> first | exact wpAny_pure q | exact wpAny_rule q
      · intro h' sb r; dsimp only; exact wpAny_pure (fin h' _ sb r)
end
/-- a list's texts, each once -/
def once (xs : List Str) : List Str := xs.foldl (fun L k => if k ∈ L then L else k :: L) []
theorem once_len (xs : List Str) (i : Nat) : (once (xs.take i)).length ≤ i := by
  induction i with
  | zero => simp [once]
  | succ i ih =>
    rw [List.take_add_one]
    cases h : xs[i]? with
    | none => simp only [Option.toList_none, List.append_nil]; omega
    | some k =>
      have e : once (xs.take i ++ [k]) = (if k ∈ once (xs.take i) then once (xs.take i) else k :: once (xs.take i)) := by
        unfold once
        rw [List.foldl_append]
        rfl
      show (once (xs.take i ++ [k])).length ≤ i + 1
      rw [e]
      split
      · omega
      · rw [List.length_cons]; omega
theorem once_next {xs : List Str} {i : Nat} {k : Str} (h : xs[i]? = some k) : once (xs.take (i + 1)) = (if k ∈ once (xs.take i) then once (xs.take i) else k :: once (xs.take i)) := by
  rw [List.take_add_one, h]
  show once (xs.take i ++ [k]) = _
  unfold once
  rw [List.foldl_append]
  rfl
theorem once_mem_gen (k : Str) : ∀ (xs L : List Str), k ∈ xs.foldl (fun L k => if k ∈ L then L else k :: L) L ↔ k ∈ L ∨ k ∈ xs
  | [], L => by simp
  | x :: r, L => by
    rw [List.foldl_cons, once_mem_gen k r]
    by_cases h : x ∈ L
    · rw [if_pos h, List.mem_cons]
      constructor
      · rintro (z | z)
        · exact .inl z
        · exact .inr (.inr z)
      · rintro (z | z | z)
        · exact .inl z
        · exact .inl (z ▸ h)
        · exact .inr z
    · rw [if_neg h, List.mem_cons, List.mem_cons]
      constructor
      · rintro ((z | z) | z)
        · exact .inr (.inl z)
        · exact .inl z
        · exact .inr (.inr z)
      · rintro (z | z | z)
        · exact .inl (.inr z)
        · exact .inl (.inl z)
        · exact .inr z
theorem once_mem {k : Str} {xs : List Str} : k ∈ once xs ↔ k ∈ xs := by
  unfold once
  rw [once_mem_gen]
  simp
theorem once_nodup : ∀ (xs L : List Str), L.Nodup → (xs.foldl (fun L k => if k ∈ L then L else k :: L) L).Nodup
  | [], L, h => h
  | x :: r, L, h => by
    rw [List.foldl_cons]
    refine once_nodup r _ ?_
    split
    · exact h
    · rename_i hn
      exact List.nodup_cons.mpr ⟨hn, h⟩
section
variable {P : Program} {w : World} {A : Around} {E : Value → Shared → Prop} {s : Shared}
theorem update_txts {I : Addr} {fp wr : List Addr} {G : Array GenState → Array GenState → Prop} {n : Nat} {Pv : Nat → Value → Prop} {St : Nat → Shared → Prop} {R : Result → Shared → Prop}
    (W : WalksS P w A.in1 I fp wr G n Pv St) (S : Addr) (hSf : S ∉ fp) (xs : List Str) (hn : n = xs.length) (hb : xs.length + 1 < scanBound) (hval : ∀ i v, Pv i v → ∃ k t, xs[i]? = some k ∧ v = .str k t) :
    ∀ (k i : Nat) (s : Shared), n - i = k → i ≤ n → St i s → SetX w s.heap S (once (xs.take i)) →
      (∀ s', Moved (S :: wr) G s s' → SetX w s'.heap S (once xs) → R (.ok (.ret .none)) s') →
      codeAny (model P w) A (.builtin "set.update.loop" ⟨[.ref S, .ref I], []⟩) R s := by
  have hSw : S ∉ wr := fun h => hSf (W.sub _ h)
  intro k
  induction k with
  | zero =>
    intro i s hk hi hst hS hR
    obtain rfl : i = n := by omega
    rw [List.take_of_length_le (Nat.le_of_eq hn.symm)] at hS
    refine codeAny_builtin F.entry_set_update_loop ?_
    rw [Around.under_plainId F.plain_set_update_loop _]
    show wpAny _ A.in1 (pyNext (.ref I) >>= _) _ _ s
    refine wpAny_bind (W.done s _ _ hst fun s' hm => ?_)
    exact wpAny_pure (hR s' (hm.mono fun b hb => List.mem_cons_of_mem _ hb) (hS.at' fun o e => hm.heap S o hSw e))
  | succ k ih =>
    intro i s hk hi hst hS hR
    have hlt : i < n := by omega
    refine codeAny_builtin F.entry_set_update_loop ?_
    rw [Around.under_plainId F.plain_set_update_loop _]
    show wpAny _ A.in1 (pyNext (.ref I) >>= _) _ _ s
    refine wpAny_bind (W.item i s _ _ hlt hst fun v s' hP hst' hm => ?_)
    obtain ⟨z, t, hz, rfl⟩ := hval i v hP
    have hS' : SetX w s'.heap S (once (xs.take i)) := hS.at' fun o e => hm.heap S o hSw e
    show wpAny _ A.in1 (holding [Value.str z t] (setAdd S (.str z t)) >>= _) _ _ s'
    refine wpAny_bind (wpAny_holding ?_)
    unfold setAdd
    refine wpAny_holding (wpAny_bind ((PySem.strKind P w).pyHash (k := z) (strKind_is _ _ _ _) ?_))
    have hl := once_len xs i
    refine addX_hashed (s := { s' with toks := s'.toks + 1 }) hS' (by omega) fun h' b0 hsb hS2 => ?_
    rw [← once_next hz] at hS2
    refine wpAny_pure ⟨plainId_quiet F.plain_set_update_loop _, ih (i + 1) _ (by omega) hlt (W.frame _ s' _ _ hst' (Nat.le_succ _) fun b hb o e => ?_) hS2 fun s'' hm'' hS'' => ?_⟩
    · rw [hsb.2 b (fun q : b = S => hSf (by rw [← q]; exact hb))]; exact e
    · refine hR s'' (Moved.trans W.gtrans ((hm.mono fun b hb => List.mem_cons_of_mem _ hb).then_heap (Nat.le_succ _) fun b o hb e => ?_) hm'') hS''
      rw [hsb.2 b (fun q : b = S => hb (by rw [q]; exact List.mem_cons_self))]; exact e
/-- what set() makes -/
abbrev bare (w : World) : Obj := { cls := .type "set", dict := none, data := .set #[] 0 (.fresh 0 0 (!w.params.followText "set-order")) }
theorem bareX {h : Heap} {a : Addr} (ho : h.get? a = some (bare w)) : SetX w h a [] :=
  ⟨⟨_, #[], 0, _, ho, ⟨rfl, rfl, rfl⟩, rfl, (fun e he => by simp at he), (by simp), (by decide), (by rfl), List.Pairwise.nil, by
    show _ ∨ (!w.params.followText "set-order") = true
    cases w.params.followText "set-order"
    · exact .inr rfl
    · exact .inl rfl⟩, List.nodup_nil⟩
theorem StrsAre.txt_at : ∀ {us : List Value} {ks : List Str}, StrsAre us ks → ∀ (i : Nat) (v : Value), us[i]? = some v → ∃ k t, ks[i]? = some k ∧ v = .str k t
  | _, _, .nil, i, v, h => by simp at h
  | _, _, .cons n t hr, 0, v, h => by simp at h; exact ⟨n, t, rfl, h.symm⟩
  | _, _, .cons n t hr, i + 1, v, h => by
    simp only [List.getElem?_cons_succ] at h ⊢
    exact txt_at hr i v h
set_option maxRecDepth 100000 in
set_option maxHeartbeats 3200000 in
theorem set_of_txts {l : Addr} {items : Array Value} (xs : List Str) {Q : Value → Shared → Prop} (hh : A.handled = none) (hl : s.heap.IsTuple l items) (hit : StrsAre items.toList xs) (hb : xs.length + 1 < scanBound)
    (h : ∀ (h' : Heap) (tk : Nat), SetX w h' s.heap.objs.size (once xs) → (∀ b o, s.heap.get? b = some o → h'.get? b = some o) → Q (.ref s.heap.objs.size) { s with heap := h', toks := tk }) :
    wpAny (model P w) A (call (.type "set") [.ref l]) Q E s := by
  have hisz : items.size = xs.length := by
    have q := StrsAre.len_eq hit
    rw [Array.length_toList] at q
    exact q
  obtain ⟨c, tl, hmro⟩ := F.called_set.mro
  have hmade := F.called_set.made
  have hsub := F.called_set.sub
  refine wpAny_call (codeAny_of_tree ?_)
  show wpAny _ _ (callAny (.type "set") _) _ _ _
  refine wpAny_pure ⟨Code.quiet_builtin _ (by decide +kernel), codeAny_builtin F.entry_type_call ?_⟩
  rw [Around.under_plain (weight_type_call_type "set" [.ref l] []) rfl]
  have h1 := F.called_set.notType
  have h2 := F.called_set.canCreate
  have hct := F.typeCall_set_1 (.ref l)
  repeat (any_goals (first | assumption | wp_step))
  refine codeAny_mono (code_set_led1 (.ref l) (E := E) (Q₁ := fun obj s1 => obj = .ref s.heap.objs.size ∧ s1 = { s with heap := s.heap.push (bare w) }) ⟨rfl, rfl⟩) fun r s1 hr => ?_
  cases r with
  | error e => exact hr
  | ok fl =>
    cases fl with
    | ret obj =>
      obtain ⟨rfl, rfl⟩ := hr
      have hS : (s.heap.push (bare w)).get? s.heap.objs.size = some (bare w) := Heap.get?_push_size _ rfl
      have hT : Shared.TypeIs { s with heap := s.heap.push (bare w) } (.ref s.heap.objs.size) "set" := ⟨_, hS, rfl⟩
      have hli := F.called_set.init.lookup
      have hbi := F.called_set.init.bind (.ref s.heap.objs.size)
      repeat (any_goals (first | assumption | wp_step))
      refine codeAny_mono (codeAny_call_builtin (R := wants (fun r s2 => r = .none ∧ ∃ h' tk, s2 = { s with heap := h', toks := tk } ∧ SetX w h' s.heap.objs.size (once xs) ∧
          (∀ b o, s.heap.get? b = some o → h'.get? b = some o)) E) F.called_set.init.plain F.entry_set_init (check_set_init_1 hT ?_)) fun r2 s2 hr2 => ?_
      · obtain ⟨⟨ocls, odict, odata, oslots⟩, hol, hcl, nl, hdl⟩ := hl
        simp only at hcl hdl
        subst hcl; subst hdl
        have hol' : (s.heap.push (bare w)).get? l = some { cls := .type "tuple", dict := odict, data := .seq items nl, slots := oslots } := Heap.get?_push_of_some _ hol
        have hsls := F.sub_tuple_set
        have hslf := F.sub_tuple_frozenset
        have hne : (Value.type "tuple" == Value.type "dict") = false := by decide
        have hl1 : (s.heap.push (bare w)).IsTuple l items := ⟨_, hol', rfl, nl, rfl⟩
        unfold Builtin.«set.__init__» noKeywords Builtin.Frozenset.updateFrom
        generalize hPI : pyIter = PI
        wp_walk
        subst hPI
        refine wpAny_pyIter_tuple hl1 (wpAny_bind (wpAny_runValue ?_))
        have hlS : l < s.heap.objs.size := Heap.lt_size hol
        have hh3 : A.in1.in1.in1.handled = none := by simp [hh]
        have hz1 : (s.heap.push (bare w)).objs.size = s.heap.objs.size + 1 := Heap.size_push ..
        have hneI : l ≠ (s.heap.push (bare w)).objs.size := by rw [hz1]; exact Nat.ne_of_lt (Nat.lt_succ_of_lt hlS)
        have hSf : s.heap.objs.size ∉ [(s.heap.push (bare w)).objs.size, l] := by
          rw [hz1]; simp only [List.mem_cons, List.not_mem_nil, or_false, not_or]
          exact ⟨Nat.ne_of_lt (Nat.lt_succ_self _), Nat.ne_of_gt hlS⟩
        refine update_txts ((Walks.tuple hh3 _ l hneI items).toS) s.heap.objs.size
          hSf xs hisz hb (fun i v hv => StrsAre.txt_at hit i v (by rw [Array.getElem?_toList]; exact hv)) (items.size - 0) 0 _ (by omega) (Nat.zero_le _)
          ⟨⟨_, Heap.get?_push_size _ rfl, rfl, rfl⟩, (hl1.push _)⟩ ?hS0 ?hR
        case hS0 =>
          exact bareX (Heap.get?_push_of_some _ hS)
        case hR =>
          intro s' hm hS'
          obtain ⟨h', g2, d', tk', os'⟩ := s'
          have eg : g2 = s.gens := hm.gens
          have ed : d' = s.drawn := hm.drawn
          have eo : os' = s.os := hm.os
          subst eg; subst ed; subst eo
          show wpAny _ _ _ _ _ _
          refine wpAny_pure ?_
          show wpAny _ _ (ret Value.none) _ _ _
          refine wpAny_pure ⟨rfl, h', tk', rfl, hS', fun b o e => ?_⟩
          have hb0 : b < s.heap.objs.size := Heap.lt_size e
          exact hm.heap b o (by rw [hz1]; simp only [List.mem_cons, List.not_mem_nil, or_false, not_or]; exact ⟨Nat.ne_of_lt hb0, Nat.ne_of_lt (Nat.lt_succ_of_lt hb0)⟩) (Heap.get?_push_of_some _ (Heap.get?_push_of_some _ e))
      · cases r2 with
        | error e => exact hr2
        | ok fl2 =>
          cases fl2 with
          | ret r =>
            obtain ⟨rfl, h', tk, rfl, hS', hk'⟩ := hr2
            repeat (any_goals (first | assumption | wp_step))
            exact h _ _ hS' hk'
          | _ => exact hr2.elim
    | _ => exact hr.elim
theorem sorted_setX {a : Addr} {L : List Str} {Q : Value → Shared → Prop} (R : SetX w s.heap a L) (hh : A.handled = none) (h64 : L.length < 64)
    (hQ : ∀ s' p (out : Array Value) (c : Nat) (ys : List Str), (∀ b o, s.heap.get? b = some o → s'.heap.get? b = some o) → s'.gens = s.gens → s'.os = s.os → s.heap.objs.size ≤ p →
      s'.heap.get? p = some (seqObj "list" out c) → StrsAre out.toList ys → ys.Perm L → sortedS ys = true → Q (.ref p) s') :
    wpAny (model P w) A (call (.builtin "sorted") [.ref a]) Q E s := by
  obtain ⟨⟨o, es, ep, t, ho, hex, hd, g, pm0, hb, hf, hr, hl⟩, nd⟩ := R
  have hlen : es.size = L.length := by rw [← pm0.length_eq, List.length_map, Array.length_toList]
  refine Calls.call_function_entry kind_sorted plain_sorted entry_sorted (args_sorted1 _) ?_
  unfold Builtin.«sorted»
  refine wpAny_bind (m := checkCount "sorted" 1 1 _) (wpAny_pure ?_)
  refine wpAny_bind (collect_set (A := A.in1) hh ⟨o, ho, hex.1, hd⟩ hf hb hr hl fun s1 vs k1 hz g1 o1 pm => ?_)
  have hvl : vs.length = L.length := by rw [pm.length_eq, List.length_map, Array.length_toList, hlen]
  have hV : ∀ v ∈ vs, ∃ x tk, v = Value.str x tk := fun v hv => by
    obtain ⟨e, he, q⟩ := List.mem_map.mp (pm.mem_iff.mp hv)
    obtain ⟨k, tk, h1, _⟩ := g e he
    exact ⟨k, tk, by rw [← q]; exact h1⟩
  have hS : StrsAre vs (vs.map strOf) := strsAre_map vs hV
  have pk : (vs.map strOf).Perm L := by
    refine List.Perm.trans ?_ pm0
    have q := pm.map strOf
    rw [List.map_map] at q
    have e : es.toList.map (strOf ∘ fun x => x.2) = es.toList.map txtOf := by
      refine List.map_congr_left fun e he => ?_
      obtain ⟨k, tk, h1, _⟩ := g e he
      show strOf e.2 = txtOf e
      unfold txtOf
      rw [h1] <;> rfl
    rw [e] at q
    exact q
  refine wpAny_bind (wpAny_newList ?_ (by rw [hvl, sizeLine_eq]; omega))
  have hoL : (s1.heap.push (seqObj "list" vs.toArray 0)).get? s1.heap.objs.size = some (seqObj "list" vs.toArray 0) := Heap.get?_push_size _ rfl
  refine wpAny_bind (wpAny_holding (wpAny_call_entry slot_list_sort ⟨_, hoL, rfl⟩ entry_list_sort
    (list_sort_treeK strKind_oneLt hoL hS.keysOf (fun v1 v2 rest e => keyKind_strs (by rw [← e]; exact hS)) (by rw [hvl]; exact h64) fun st' hp hs => ⟨_, rfl, ?_⟩) (args_list_sort _)))
  obtain ⟨ys, b1, b2, b3⟩ := sorted_out_str hS hp hs
  obtain ⟨c, hc⟩ := sortedHeap_at (vs := vs) (out := (arrOf st').map (·.2)) hoL
  refine wpAny_pure ⟨_, rfl, hQ _ s1.heap.objs.size _ c ys (fun b u e => ?_) g1 o1 hz hc b1 (b2.trans pk) b3⟩
  have q := k1 b u e
  have hlt := Heap.lt_size q
  show (sortedHeap (s1.heap.push (seqObj "list" vs.toArray 0)) s1.heap.objs.size vs _).get? b = some u
  rw [sortedHeap_old (Nat.ne_of_lt hlt) (by rw [size_push']; exact Nat.lt_succ_of_lt hlt)]
  exact Heap.get?_push_of_some _ q
end
end XS
namespace L2
open PySem PySem.Spec PyProof.Rows XS
section
variable {X : Cx}
/-- the set of texts at a -/
def SetXO (w : World) (a : Addr) (L : List Str) : HO := .ext fun h => SetX w h a L
theorem setXO_new {w : World} {P : Program} {H : Hp} {h : Heap} {a : Addr} {L : List Str} (R : SetX w h a L) : ObjOk P w H h a (SetXO w a L) := by
  have ⟨⟨o, _, _, _, ho, _⟩, _⟩ := R
  exact ⟨R, ⟨o, ho⟩, fun h1 h2 p k => p.at' k⟩
theorem txts_of_vals : ∀ {ys : List Str} {us : List Value}, Vals (ys.map V.str) us → StrsAre us ys
  | [], _, .nil => .nil
  | y :: ys, _, .cons r t => by
    obtain ⟨k, rfl⟩ := r
    exact .cons y k (txts_of_vals t)
/-- set(t), t a tuple of texts -/
def rSetX (K : PySem.W.Frag) (w : World) : List V → Hp → VK → Prop := fun vs H Q => ∃ (l : Addr) (xs : List Str), vs = [V.ref l] ∧ SqT K H l (xs.map V.str) ∧ xs.length < 64 ∧ ∀ p, H p = none → Q (.ref p) (upd H p (SetXO w p (once xs)))
theorem cr_setX (hc : X.calm = true) : CallR X (.type "set") (rSetX X.K X.w) := by
  intro pins s σ H vs us Q I r h
  obtain ⟨l, xs, rfl, hq, h64, q⟩ := h
  rw [Vals.ref1 r]
  obtain ⟨its, rv, pl, hz⟩ := I.tuple hq
  refine set_of_txts xs (I.ok.hd hc) pl (by simpa using txts_of_vals rv) (by unfold scanBound; omega) fun h' tk R k => ?_
  exact ⟨.ref _, upd H s.heap.objs.size (SetXO X.w s.heap.objs.size (once xs)), I.laid (t' := tk) k (Nat.le_refl _) (setXO_new R), rfl, q _ (I.hok.fresh (Nat.le_refl _))⟩
/-- sorted(s), s a set of texts -/
def rSortedX (w : World) : List V → Hp → VK → Prop := fun vs H Q => ∃ (a : Addr) (L : List Str), vs = [V.ref a] ∧ H a = some (SetXO w a L) ∧ L.length < 64 ∧
  ∀ (ys : List Str) (p : Addr), ys.Perm L → sortedS ys = true → H p = none → Q (.ref p) (upd H p (.lst (ys.map V.str)))
theorem cr_sortedX (hc : X.calm = true) : CallR X (.builtin "sorted") (rSortedX X.w) := by
  intro pins s σ H vs us Q I r h
  obtain ⟨a, L, rfl, ha, h64, q⟩ := h
  have R : SetX X.w s.heap a L := (I.hok a _ ha).1
  rw [Vals.ref1 r]
  refine sorted_setX R (I.ok.hd hc) h64 fun s' p out c ys k g o hp hg hi pm hs => ?_
  have hlen : (ys.map V.str).length ≤ sizeLine := by rw [List.length_map, pm.length_eq, sizeLine_eq]; omega
  have hn : H p = none := I.hok.fresh hp
  have J : Inv X pins σ (upd H p (.lst (ys.map V.str))) { s with heap := s'.heap, gens := s'.gens, drawn := s'.drawn, toks := s'.toks } :=
    I.call (ch := []) (Un.laid k hp hn) (I.hok.laid k hp ⟨hlen, out.toList, c, vals_of_strs hi, hg⟩) (by rw [g]; exact I.bare) (fun _ z => nomatch z)
  have e : s' = { s with heap := s'.heap, gens := s'.gens, drawn := s'.drawn, toks := s'.toks } := by
    cases s'
    cases s
    cases o
    rfl
  rw [e]
  exact ⟨.ref p, _, J, rfl, q ys p pm hs hn⟩
end
end L2

set_option Elab.async false
set_option linter.all false
set_option maxRecDepth 100000
set_option maxHeartbeats 2000000
namespace Y
open PySem PySem.Spec PyProof.Rows L2 StX XD XS
variable {w : World} [Tb w]
section
variable {K : PySem.W.Frag} {X : Cx} {E : XK}
variable {Φ : Phi} {B : Hp} {α : List Addr} {H : Hp} {σ : L2.St} {ρ : Env} {ω : Sto} {T : List (V × S)}
abbrev FJ := Nat → (S → Sto → Prop) → Sto → Prop
def FinJ (K : PySem.W.Frag) (fin : FJ) : Prop := ∀ (Φ : Phi) (B H : Hp) (α : List Addr) (σ : L2.St) (ρ : Env) (ω : Sto) (T : List (V × S)) (v : V) (j : Nat) (q : S → Sto → Prop) (Q : VK), StB Φ K B α H σ ρ ω T → (v, .pin j) ∈ T →
  (∀ s ω' v H', q s ω' → St Φ K H' σ ρ ω' ((v, s) :: T) → Q v H') → fin j q ω → Q v H
def finZ : FJ := fun j q ω => match ω[j]? with
  | some c => match frzC c with
    | some d => q (.d d) (ω.set j .dead)
    | none => False
  | none => False
def finJ : FJ := fun j q ω => q (.pin j) ω
theorem finJ_ok : FinJ K finJ := fun Φ B H α σ ρ ω T v j q Q sb m k h => k _ _ _ _ h (sb.st.sub1 m)
theorem finZ_ok : FinJ K finZ := fun Φ B H α σ ρ ω T v j q Q sb m k h => by
  unfold finZ at h
  split at h
  · rename_i c ec
    split at h
    · rename_i d ed
      obtain ⟨a, ha, ev⟩ := sb.tm _ m
      have ev : v = .ref a := ev
      subst ev
      obtain ⟨B2, f2, w2, r2⟩ := Frame.frz sb.fr.bh sb.wd ha ec ed
      exact k _ _ _ _ h ((sb.step f2 w2).pushD r2).st
    · exact h.elim
  · exact h.elim
def dcR (gd : TGD) (td : TTD) (tk tv : TD) (ρ : Env) (P : Sto → Prop) (x : XD) (j : Nat) (fin : Sto → Prop) : List S → Sto → Prop
  | [], ω => fin ω
  | s :: r, ω => gd s ρ ω (fun ρ1 ω1 => td ρ1 ω1 (fun b ω2 => if b = true then tk ρ1 ω2 (fun y ω3 => tv ρ1 ω3 (fun z ω4 => putD (.pin j) y z ω4 fun ω5 => P ω5 ∧ dcR gd td tk tv ρ P x j fin r ω5) x) x else P ω2 ∧ dcR gd td tk tv ρ P x j fin r ω2) x)
def dDc (c0 : Cell) (it : TID) (gd : TGD) (td : TTD) (tk tv : TD) (vs : List Nat) (fin : FJ) : TD := fun ρ ω q x => it ρ ω (fun is P ω1 => P (ω1 ++ [c0]) ∧ dcR gd td tk tv (wipeD ρ vs) P x ω1.length (fin ω1.length q) is (ω1 ++ [c0])) x
theorem ref_dc {start : Addr → HO} {c0 : Cell} {wi : TI} {g : TG} {tt : TT} {ek ev : TE} {it : TID} {gd : TGD} {td : TTD} {tk tv : TD} {vs : List Nat} {fin : FJ} (hc0 : ∀ (α : List Addr) (B H : Hp) (D : Addr), B D = none → CellOk (w := w) K (α ++ [D]) B (upd H D (start D)) D c0) (hf : FinJ (w := w) K fin)
    (h1 : RefI K E wi it) (h2 : RefG K g gd) (go : GO g vs) (h3 : RefT K E tt td) (h4 : Ref K E ek tk) (h5 : Ref K E ev tv) : Ref K E (tDcY w start wi g tt ek ev vs) (dDc c0 it gd td tk tv vs fin) := fun Φ H σ ρ ω T q Q x s hx k h => h1 Φ H σ ρ ω T _ _ x s hx (fun is P ω1 J H1 T0 h st ⟨G, Yd, hw, hI⟩ => by
  intro D hD
  obtain ⟨hp, h⟩ := h
  obtain ⟨B, α, sb⟩ := st
  have st1 := sb.newC (o := start D) hD (hc0 α B H1 D (sb.fr.bh.free hD))
  refine loop_it hw (Step := fun v H' Nx => g v (wipe σ vs) H' fun σ2 H2 => wipe σ2 vs = wipe σ vs ∧ tt σ2 H2 fun b H3 => if b = true then ek σ2 H3 fun y H4 => ev σ2 H4 fun z H5 => ∃ H6, XP.DPutY w H5 D y z H6 ∧ Nx H6 else Nx H3)
    (fun i H' => ∃ ω', St Φ K H' σ ρ ω' ((.ref D, .pin ω1.length) :: (T0 ++ T)) ∧ P ω' ∧ dcR gd td tk tv (wipeD ρ vs) P x ω1.length (fin ω1.length q) (is.drop i) ω') ⟨_, st1, hp, by simpa using h⟩
    (fun i H' _ ⟨ω', sb', hp, _⟩ => (hI Φ H' σ ρ ω' _ sb' (fun p hp => by simp [hp]) hp).1) (fun i v H2 H3 hi ⟨ω, ⟨B1, α1, sb⟩, hp, hl⟩ hy => ?_) (fun H' ⟨ω', ⟨B1, α1, sb⟩, hp, hl⟩ => ?_)
  · have sb0 : StB ⟨B1, H2, α1⟩ K B1 α1 H2 (wipe σ vs) (wipeD ρ vs) ω ((.ref D, .pin ω1.length) :: (T0 ++ T)) := ⟨Frame.refl sb.fr.bh, sb.wd, sb.sl.wipe vs, sb.tm⟩
    have hx2 : XOk ⟨B1, H2, α1⟩ K x E := hx.step sb.fr
    obtain ⟨y1, hy1, st1⟩ := (hI _ H2 _ _ ω _ sb0.st (fun p hp => by simp [hp]) hp).2 i v H3 hi hy
    have e : is.drop i = y1 :: is.drop (i + 1) := by
      obtain ⟨hn, e⟩ := List.getElem?_eq_some_iff.mp hy1
      rw [List.drop_eq_getElem_cons hn, e]
    rw [e] at hl
    have back : ∀ {H' : Hp} {ω' : Sto} {σ' : L2.St} {ρ' : Env} {U : List (V × S)}, St ⟨B1, H2, α1⟩ K H' σ' ρ' ω' (U ++ ((.ref D, .pin ω1.length) :: (T0 ++ T))) → St Φ K H' σ ρ ω' ((.ref D, .pin ω1.length) :: (T0 ++ T)) := fun {H' ω' σ' ρ' U} ⟨B', α', s'⟩ => by
      obtain ⟨β, eβ, _⟩ := s'.fr.pre
      exact ⟨B', α', sb.fr.trans s'.fr, s'.wd, sb.sl.mono s'.fr.bb ⟨β, eβ⟩, fun p hp => s'.tm p (List.mem_append_right _ hp)⟩
    refine go v (wipe σ vs) H3 _ _ (h2 _ H3 _ _ ω _ v y1 _ (fun σ2 H4 => wipe σ2 vs = wipe (wipe σ vs) vs → tt σ2 H4 fun b H5 => if b = true then ek σ2 H5 fun y H6 => ev σ2 H6 fun z H7 => ∃ H8, XP.DPutY w H7 D y z H8 ∧ (fun H' => ∃ ω', St Φ K H' σ ρ ω' ((.ref D, .pin ω1.length) :: (T0 ++ T)) ∧ P ω' ∧ dcR gd td tk tv (wipeD ρ vs) P x ω1.length (fin ω1.length q) (is.drop (i + 1)) ω') H8 else (fun H' => ∃ ω', St Φ K H' σ ρ ω' ((.ref D, .pin ω1.length) :: (T0 ++ T)) ∧ P ω' ∧ dcR gd td tk tv (wipeD ρ vs) P x ω1.length (fin ω1.length q) (is.drop (i + 1)) ω') H5) st1 List.mem_cons_self (fun σ2 H4 ρ2 ω2 hl st2 hw2 => ?_) hl) ?_
    rotate_left
    · have w2 : wipe (wipe σ vs) vs = wipe σ vs := wipe_idem fun _ h => h
      exact fun σ2 H4 a b => ⟨a.trans w2, b a⟩
    · refine h3 _ H4 σ2 ρ2 ω2 _ _ _ x st2 hx2 (fun b ω3 H5 hl st3 => ?_) hl
      cases b with
      | true =>
        rw [if_pos rfl] at hl ⊢
        refine h4 _ H5 σ2 ρ2 ω3 _ _ _ x st3 hx2 (fun y ω4 yv H6 hl st4 => h5 _ H6 σ2 ρ2 ω4 _ _ _ x st4 hx2 (fun z ω5 zv H7 hl ⟨B7, α7, sb7⟩ => ?_) hl) hl
        obtain ⟨a, H8, e, dp, ω', hk, sb8⟩ := put_ok sb7 (sb7.tm (.ref D, .pin ω1.length) (by simp)) (sb7.tm (yv, y) (by simp)) (sb7.tm (zv, z) (by simp)) hl
        cases e
        exact ⟨H8, dp, ω', back (U := [(zv, z), (yv, y), (v, y1)]) sb8.st, hk.1, hk.2⟩
      | false =>
        rw [if_neg Bool.false_ne_true] at hl ⊢
        exact ⟨ω3, back (U := [(v, y1)]) st3, hl.1, hl.2⟩
  · rw [List.drop_length] at hl
    exact hf Φ B1 H' α1 σ ρ ω' _ (.ref D) ω1.length q Q sb List.mem_cons_self (fun s ω' v H' hq hs => k s ω' v H' hq (hs.sub fun p hp => by
      rcases List.mem_cons.mp hp with rfl | hp
      · simp
      · simp [hp])) hl) h
section
variable {kx vx tg iter : Expr} {ifs : List Expr} {scope : Scope} {pos : Pos} {own : List (Str × Nat)} {wi : TI} {it : TID} {g : TG} {gd : TGD} {tt : TT} {td : TTD} {ek ev : TE} {tk tv : TD} {fin : FJ}
theorem y_dcK (hf : FinJ (w := w) K fin) (hu : X.A.units + 2 < cLine) (hc : X.calm = true) (hN : X.N.Nodup) (h1 : PID X K E tg iter wi it) (ok : BlkOk X.N X.env.scope scope own) (go : GO g (own.map (·.2)))
    (hg : ∀ (s : Shared) (H : Hp) (C : Addr) (cl : List (Str × Addr)) (fp : List Addr), PGD (X.blk s H scope (compEnvC scope cl C X.env) fp) K tg g gd) (ht : ∀ (s : Shared) (H : Hp) (C : Addr) (cl : List (Str × Addr)) (fp : List Addr), PTsD (X.blk s H scope (compEnvC scope cl C X.env) fp) K E ifs tt td)
    (hk : ∀ (s : Shared) (H : Hp) (C : Addr) (cl : List (Str × Addr)) (fp : List Addr), PD (X.blk s H scope (compEnvC scope cl C X.env) fp) K E kx ek tk) (he : ∀ (s : Shared) (H : Hp) (C : Addr) (cl : List (Str × Addr)) (fp : List Addr), PD (X.blk s H scope (compEnvC scope cl C X.env) fp) K E vx ev tv)
    (hw : X.w = w := by rfl) (hs : ∀ x, foldedSetIterable iter X.env x = pure x := by intro _; rfl) :
    PD X K E (.DictComp kx vx [⟨tg, iter, ifs, 0⟩] scope pos) (tDcY w (fun _ => .dK []) wi g tt ek ev (own.map (·.2))) (dDc (.dK []) it gd td tk tv (own.map (·.2)) fin) := by
  subst hw
  exact ⟨pe_dcY hu (fun H h hb => dk_empty h hb) hc hN h1.p ok (fun s H C cl fp => (hg s H C cl fp).p) (fun s H C cl fp => (ht s H C cl fp).p) (fun s H C cl fp => (hk s H C cl fp).p) (fun s H C cl fp => (he s H C cl fp).p) hs,
    ref_dc (fun α B H D nb => ⟨nb, [], upd_same, .nil⟩) hf h1.r (hg {} (fun _ => none) 0 [] []).r go (ht {} (fun _ => none) 0 [] []).r (hk {} (fun _ => none) 0 [] []).r (he {} (fun _ => none) 0 [] []).r⟩
theorem y_dcT (hf : FinJ (w := w) K fin) (hu : X.A.units + 2 < cLine) (hc : X.calm = true) (hN : X.N.Nodup) (h1 : PID X K E tg iter wi it) (ok : BlkOk X.N X.env.scope scope own) (go : GO g (own.map (·.2)))
    (hg : ∀ (s : Shared) (H : Hp) (C : Addr) (cl : List (Str × Addr)) (fp : List Addr), PGD (X.blk s H scope (compEnvC scope cl C X.env) fp) K tg g gd) (ht : ∀ (s : Shared) (H : Hp) (C : Addr) (cl : List (Str × Addr)) (fp : List Addr), PTsD (X.blk s H scope (compEnvC scope cl C X.env) fp) K E ifs tt td)
    (hk : ∀ (s : Shared) (H : Hp) (C : Addr) (cl : List (Str × Addr)) (fp : List Addr), PD (X.blk s H scope (compEnvC scope cl C X.env) fp) K E kx ek tk) (he : ∀ (s : Shared) (H : Hp) (C : Addr) (cl : List (Str × Addr)) (fp : List Addr), PD (X.blk s H scope (compEnvC scope cl C X.env) fp) K E vx ev tv)
    (hw : X.w = w := by rfl) (hs : ∀ x, foldedSetIterable iter X.env x = pure x := by intro _; rfl) :
    PD X K E (.DictComp kx vx [⟨tg, iter, ifs, 0⟩] scope pos) (tDcY w (fun _ => .dT []) wi g tt ek ev (own.map (·.2))) (dDc (.dT []) it gd td tk tv (own.map (·.2)) fin) := by
  subst hw
  exact ⟨pe_dcY hu (fun H h hb => dt_empty h hb) hc hN h1.p ok (fun s H C cl fp => (hg s H C cl fp).p) (fun s H C cl fp => (ht s H C cl fp).p) (fun s H C cl fp => (hk s H C cl fp).p) (fun s H C cl fp => (he s H C cl fp).p) hs,
    ref_dc (fun α B H D nb => ⟨nb, [], upd_same, .nil⟩) hf h1.r (hg {} (fun _ => none) 0 [] []).r go (ht {} (fun _ => none) 0 [] []).r (hk {} (fun _ => none) 0 [] []).r (he {} (fun _ => none) 0 [] []).r⟩
theorem y_dcP (hf : FinJ (w := w) K fin) (hu : X.A.units + 2 < cLine) (hc : X.calm = true) (hN : X.N.Nodup) (h1 : PID X K E tg iter wi it) (ok : BlkOk X.N X.env.scope scope own) (go : GO g (own.map (·.2)))
    (hg : ∀ (s : Shared) (H : Hp) (C : Addr) (cl : List (Str × Addr)) (fp : List Addr), PGD (X.blk s H scope (compEnvC scope cl C X.env) fp) K tg g gd) (ht : ∀ (s : Shared) (H : Hp) (C : Addr) (cl : List (Str × Addr)) (fp : List Addr), PTsD (X.blk s H scope (compEnvC scope cl C X.env) fp) K E ifs tt td)
    (hk : ∀ (s : Shared) (H : Hp) (C : Addr) (cl : List (Str × Addr)) (fp : List Addr), PD (X.blk s H scope (compEnvC scope cl C X.env) fp) K E kx ek tk) (he : ∀ (s : Shared) (H : Hp) (C : Addr) (cl : List (Str × Addr)) (fp : List Addr), PD (X.blk s H scope (compEnvC scope cl C X.env) fp) K E vx ev tv)
    (hw : X.w = w := by rfl) (hs : ∀ x, foldedSetIterable iter X.env x = pure x := by intro _; rfl) :
    PD X K E (.DictComp kx vx [⟨tg, iter, ifs, 0⟩] scope pos) (tDcY w (fun D => XP.DicP w D []) wi g tt ek ev (own.map (·.2))) (dDc (.dP []) it gd td tk tv (own.map (·.2)) fin) := by
  subst hw
  exact ⟨pe_dcY hu (fun H h hb => XP.dicP_empty hb) hc hN h1.p ok (fun s H C cl fp => (hg s H C cl fp).p) (fun s H C cl fp => (ht s H C cl fp).p) (fun s H C cl fp => (hk s H C cl fp).p) (fun s H C cl fp => (he s H C cl fp).p) hs,
    ref_dc (fun α B H D nb => ⟨nb, [], upd_same, ⟨by simp, by simp⟩, .nil⟩) hf h1.r (hg {} (fun _ => none) 0 [] []).r go (ht {} (fun _ => none) 0 [] []).r (hk {} (fun _ => none) 0 [] []).r (he {} (fun _ => none) 0 [] []).r⟩
end
/-! ### {} for pairs as keys -/
def dNewP : TD := fun ρ ω q x => q (.pin ω.length) (ω ++ [.dP []])
theorem y_dnewP {pos : Pos} (hw : X.w = w := by rfl) : PD X K E (.Dict [] [] pos) (fun σ H Q => ∀ p, H p = none → Q (.ref p) (upd H p (XP.DicP w p []))) dNewP := by
  subst hw
  exact ⟨⟨fun pins s σ H Q I h => wpAny_Dict_empty ⟨.ref s.heap.objs.size, _, I.laid (a := s.heap.objs.size) (o := XP.DicP X.w s.heap.objs.size []) (t' := s.toks) (fun _ _ q => Heap.get?_push_of_some _ q) (Nat.le_refl _) (XP.dicP_empty I.big), rfl, h _ (I.hok.fresh (Nat.le_refl _))⟩⟩,
    fun Φ H σ ρ ω T q Q x ⟨B, α, sb⟩ hx k h p hp => k _ _ _ _ h (sb.newC (c := .dP []) hp ⟨sb.fr.bh.free hp, [], upd_same, ⟨by simp, by simp⟩, .nil⟩)⟩
/-! ### t[::-1] -/
def rslD : S → Sto → (S → Sto → Prop) → Prop := fun s ω q => match s with
  | .d (.tup ds) => q (.d (.tup ds.reverse)) ω
  | _ => False
theorem y_rslice {e : Expr} {t : TD} {k : Nat} {p1 p2 p3 pos : Pos} (h0 : PD X K E e ht t) (hK : X.K = K := by rfl) : PD X K E (.Subscript e (.Slice none none (some (.UnaryOp .USub (.Constant (.int 1) k p1) p2)) p3) pos) (tRevT K ht) (dUn rslD t) := by
  subst hK
  exact ⟨pe_revT h0.p, fun Φ H σ ρ ω T q Q x s hx k h => h0.r Φ H σ ρ ω T _ _ x s hx (fun s1 ω1 v H1 h ⟨B, α, sb⟩ => by
    unfold rslD at h
    split at h
    · obtain ⟨a, xs, e, ha, ra⟩ := r_tup (sb.tm _ List.mem_cons_self)
      have e : v = .ref a := e
      subst e
      exact ⟨a, xs, rfl, SqT.of (sb.fr.bh _ _ ha), fun p hp => k _ _ _ _ h (drop_mid (U := [_]) (sb.tup hp ra.reverse))⟩
    · exact h.elim) h⟩
/-! ### sorted(set(t)), t a tuple of texts -/
def setSortD : S → Sto → (S → Sto → Prop) → Prop := fun s ω q => match s with
  | .d (.tup ds) => ∃ xs : List Str, ds = xs.map D.str ∧ xs.length < 64 ∧ ∀ ys : List Str, ys.Perm (once xs) → sortedS ys = true → q (.d (.lst (ys.map D.str))) ω
  | _ => False
theorem rs_strs {B : Hp} : ∀ {ns : List Str} {vs : List V}, Rs K B vs (ns.map .str) → vs = ns.map V.str
  | [], _, .nil => rfl
  | n :: ns, _, .cons r t => by rw [List.map_cons, r_str r, rs_strs t]
theorem rs_strs' {B : Hp} : ∀ {ns : List Str}, Rs K B (ns.map V.str) (ns.map D.str)
  | [] => .nil
  | _ :: _ => .cons (.str _) rs_strs'
theorem y_sortedSet {e : Expr} {u : TD} {p p2 pos pos2 : Pos} (b : Bu X.mg) (hc : X.calm = true) (h0 : PD X K E e ht u) (hg : Gl X "sorted" := by rfl) (hg2 : Gl X "set" := by rfl)
    (hs : starEach [e] X.env = (false, eval e X.env) :: starEach [] X.env := by rfl)
    (hs2 : starEach [.Call (.Name "set" p2) [e] [] pos2] X.env = (false, eval (.Call (.Name "set" p2) [e] [] pos2) X.env) :: starEach [] X.env := by rfl) (hK : X.K = K := by rfl) :
    PD X K E (.Call (.Name "sorted" p) [.Call (.Name "set" p2) [e] [] pos2] [] pos) (tCB (rSortedX X.w) (tCons (tCB (rSetX K X.w) (tCons ht tNil)) tNil)) (dUn setSortD u) := by
  subst hK
  refine ⟨pe_callB (cr_sortedX hc) hg b.sorted (by decide +kernel) (pa_cons (pe_callTy (cr_setX hc) hg2 b.set (by decide +kernel) (pa_cons h0.p pa_nil hs) (by decide) (by decide) hs rfl) pa_nil hs2) (by decide) (by decide) hs2 rfl, fun Φ H σ ρ ω T q Q x s hx k h => h0.r Φ H σ ρ ω T _ _ x s hx (fun s1 ω1 v H1 h ⟨B, α, sb⟩ => ?_) h⟩
  unfold setSortD at h
  split at h
  · obtain ⟨a, xs, e, ha, ra⟩ := r_tup (sb.tm _ List.mem_cons_self)
    have e : v = .ref a := e
    subst e
    obtain ⟨ns, rfl, h64, h⟩ := h
    rw [rs_strs ra] at ha
    refine ⟨a, ns, rfl, SqT.of (sb.fr.bh _ _ ha), h64, fun p hp => ?_⟩
    have sb1 := sb.beside hp (SetXO X.w p (once ns))
    refine ⟨p, once ns, rfl, upd_same, ?_, fun ys p2 pm hsd hp2 => ?_⟩
    · have := once_len ns ns.length
      rw [List.take_length] at this
      omega
    · exact k _ _ _ _ (h ys pm hsd) (drop_mid (U := [_]) (sb1.lstD hp2 rs_strs'))
  · exact h.elim
end
end Y

set_option Elab.async false
set_option linter.all false
set_option maxRecDepth 100000
set_option maxHeartbeats 2000000
namespace Y
open PySem PySem.Spec PyProof.Rows L2 StX XC
variable {w : World} [Tb w]
section
variable {ρ : Env} {ω : Sto} {q : S → Sto → Prop} {x : XD} {t u : TD} {td : TTD} {ta : TAD} {it : TID} {gd : TGD} {tl : TLD} {vs : List Nat} {P : Sto → Prop} {s : S} {is r acc : List S} {fin : List S → Sto → Prop} {k : List S → Sto → Prop}
theorem g_newP (h : q (.pin ω.length) (ω ++ [.dP []])) : dNewP ρ ω q x := h
theorem g_zipI {Q : List S → (Sto → Prop) → Sto → Prop} (h : ta ρ ω (fun ss ω' => Lf (fun k : List S → (Sto → Prop) → Sto → Prop => match ss with
  | [s1, s2] => sqOf s1 ω' fun d1 => sqOf s2 ω' fun d2 => d1.length ≤ d2.length ∧ k ((zipP d1 d2).map S.d) (fun ω'' => SqIs s1 d1 ω'' ∧ SqIs s2 d2 ω'') ω'
  | _ => False) Q) x) : dZipI ta ρ ω Q x := h
theorem g_revrng {Q : List S → (Sto → Prop) → Sto → Prop} (h : t ρ ω (fun s ω' => Lf (fun k : List S → (Sto → Prop) → Sto → Prop => match s with | .d (.int j) => int62 j ∧ k (rngS 0 j.toNat).reverse (fun _ => True) ω' | _ => False) Q) x) : dRevRng t ρ ω Q x := h
theorem g_sqIsD {d : D} {ds : List D} : SqIs (.d d) ds ω := trivial
theorem g_lcN {fin : (S → Sto → Prop) → List S → Sto → Prop} (h : it ρ ω (fun is P ω1 => P ω1 ∧ Wp vs ρ fun ρ' => lcT gd td tl ρ' P x (fin q) is [] ω1) x) : dLcN it gd td tl vs fin ρ ω q x := h
theorem g_mid (h : it ρ ω (fun is P ω1 => P ω1 ∧ Wp vs ρ fun ρ' => lcT gd td tl ρ' P x k is acc ω1) x) : dMid it gd td vs tl ρ acc ω k x := h
theorem g_elt (h : t ρ ω (fun y ω' => acc.length < 1000000 ∧ k (acc ++ [y]) ω') x) : dElt t ρ acc ω k x := h
theorem g_lcTNil (h : fin acc ω) : lcT gd td tl ρ P x fin [] acc ω := h
theorem g_lcTCons (h : gd s ρ ω (fun ρ1 ω1 => td ρ1 ω1 (fun b ω2 => if b = true then tl ρ1 acc ω2 (fun acc' ω3 => P ω3 ∧ lcT gd td tl ρ P x fin r acc' ω3) x else P ω2 ∧ lcT gd td tl ρ P x fin r acc ω2) x)) : lcT gd td tl ρ P x fin (s :: r) acc ω := h
/-- each item gives some more -/
theorem lcT_flat {β : Type} {ts : List β} (vd : β → D) (F : β → List D) {acc : List S} (hl : acc.length + (ts.flatMap F).length < 1000000) (hs : ∀ t ∈ ts, ∀ (acc : List S) (k : List S → Sto → Prop), acc.length + (F t).length < 1000000 → k (acc ++ (F t).map S.d) ω →
    gd (.d (vd t)) ρ ω (fun ρ1 ω1 => td ρ1 ω1 (fun b ω2 => if b = true then tl ρ1 acc ω2 (fun acc' ω3 => P ω3 ∧ k acc' ω3) x else P ω2 ∧ k acc ω2) x)) (he : fin (acc ++ (ts.flatMap F).map S.d) ω) : lcT gd td tl ρ P x fin ((ts.map vd).map S.d) acc ω := by
  induction ts generalizing acc with
  | nil => simpa [lcT] using he
  | cons t ts ih =>
    rw [List.flatMap_cons, List.length_append] at hl
    refine hs t (by simp) acc _ (by omega) (ih ?_ (fun t ht => hs t (by simp [ht])) ?_)
    · rw [List.length_append, List.length_map]; omega
    · rw [List.flatMap_cons, List.map_append, ← List.append_assoc] at he
      exact he
/-! dict comprehensions -/
variable {c0 : Cell} {tk tv : TD} {j : Nat} {fj : FJ} {fz : Sto → Prop}
theorem g_dc (h : it ρ ω (fun is P ω1 => P (ω1 ++ [c0]) ∧ Wp vs ρ fun ρ' => dcR gd td tk tv ρ' P x ω1.length (fj ω1.length q) is (ω1 ++ [c0])) x) : dDc c0 it gd td tk tv vs fj ρ ω q x := h
theorem g_dcNil (h : fz ω) : dcR gd td tk tv ρ P x j fz [] ω := h
theorem g_dcCons (h : gd s ρ ω (fun ρ1 ω1 => td ρ1 ω1 (fun b ω2 => if b = true then tk ρ1 ω2 (fun y ω3 => tv ρ1 ω3 (fun z ω4 => Lf (putD (.pin j) y z ω4) fun ω5 => P ω5 ∧ dcR gd td tk tv ρ P x j fz r ω5) x) x else P ω2 ∧ dcR gd td tk tv ρ P x j fz r ω2) x)) : dcR gd td tk tv ρ P x j fz (s :: r) ω := h
theorem dc_ind (I : List S → Sto → Prop) (h0 : I is ω) (hs : ∀ s r ω (k : Sto → Prop), I (s :: r) ω → (∀ ω', I r ω' → k ω') → gd s ρ ω (fun ρ1 ω1 => td ρ1 ω1 (fun b ω2 => if b = true then tk ρ1 ω2 (fun y ω3 => tv ρ1 ω3 (fun z ω4 => putD (.pin j) y z ω4 fun ω5 => P ω5 ∧ k ω5) x) x else P ω2 ∧ k ω2) x)) (he : ∀ ω, I [] ω → fz ω) : dcR gd td tk tv ρ P x j fz is ω := by
  induction is generalizing ω with
  | nil => exact he _ h0
  | cons s r ih => exact hs s r ω _ h0 fun ω' hi => ih hi
theorem finZ_eq {d : D} {c : Cell} (h1 : ω[j]? = some c) (h2 : frzC c = some d) (h : q (.d d) (ω.set j .dead)) : finZ j q ω := by
  unfold finZ
  rw [h1]
  dsimp only
  rw [h2]
  exact h
/-! functions that captured names -/
theorem g_lam {o : Addr → Addr → HO} {u : Addr → HO} (h : ∀ f c, q (.d (.clo f (o f c) c (u c) [] [])) ω) : dLam o u ρ ω q x := h
theorem g_callB {C : List V → List D → CP} {js : List Nat} (h : ta ρ ω (fun ss ω1 => Lf (fun q : S → Sto → Prop => allDk ss fun ds => match slotsD ρ js with | some wd => ∀ ws, C ws wd (ds.map (upg ws wd)) (fun d => q (.d d) ω1) | none => False) q) x) : dCallB C js ta ρ ω q x := h
theorem g_locC {i : Nat} {f c : Addr} {o u : HO} {ws : List V} {wd : List D} (h0 : ρ[i]? = some (some (.d (.clo f o c u ws wd)))) (h : t ρ ω q x) : dLocC i f o c u ws wd t ρ ω q x := ⟨h0, h⟩
end
/-! ### integers of the module -/
def KInt (mg : Str → Option Value) (x : Str) (i : Int) : Prop := ∃ t, mg x = some (.int i t)
theorem y_cst {K : PySem.W.Frag} {X : Cx} {E : XK} {x : Str} {i : Int} {pos : Pos} (h : KInt X.mg x i) (hg : Gl X x := by rfl) (hd : (x == ("__debug__" : Str)) = false := by decide) : PD X K E (.Name x pos) (tC (.int i)) (dC (.int i)) := let ⟨t, e⟩ := h; y_glob e ⟨t, rfl⟩ (fun _ => .int i) hg hd
section
variable {ω : Sto} {q : S → Sto → Prop} {neg : Bool}
theorem ix_dicK {ks : List Key} {ds : List D} {d : D} : ixD (.d (.dicK ks ds)) (.d d) ω q = match keyOf d with | some k => (match valD ks ds k with | some e => q (.d e) ω | none => False) | none => False := by cases d <;> rfl
theorem ix_dicT {ks : List (List Key)} {ds es : List D} : ixD (.d (.dicT ks ds)) (.d (.tup es)) ω q = match keysOf es with | some k => (match valD ks ds k with | some e => q (.d e) ω | none => False) | none => False := rfl
theorem ix_dicP {ks : List XP.PKey} {ds : List D} {d : D} : ixD (.d (.dicP ks ds)) (.d d) ω q = match pkeyOf d with | some k => (match valD ks ds k with | some e => q (.d e) ω | none => False) | none => False := by cases d <;> rfl
theorem in_dicK {ks : List Key} {ds : List D} {d : D} : inD neg (.d d) (.d (.dicK ks ds)) ω q = match keyOf d with | some k => q (.d (.bl (neg ^^ (valD ks ds k).isSome))) ω | none => False := by cases d <;> rfl
theorem in_dicT {ks : List (List Key)} {ds es : List D} : inD neg (.d (.tup es)) (.d (.dicT ks ds)) ω q = match keysOf es with | some k => q (.d (.bl (neg ^^ (valD ks ds k).isSome))) ω | none => False := rfl
theorem in_dicP {ks : List XP.PKey} {ds : List D} {d : D} : inD neg (.d d) (.d (.dicP ks ds)) ω q = match pkeyOf d with | some k => q (.d (.bl (neg ^^ (valD ks ds k).isSome))) ω | none => False := by cases d <;> rfl
end
end Y

set_option Elab.async false
set_option linter.all false
set_option maxRecDepth 100000
set_option maxHeartbeats 2000000
namespace Y
open PySem PySem.Spec PyProof.Rows L2
def top (i : Nat) : Stmt := PySem.Challenge.pw_treesays_k07_runs_of_machines.main.body.getD i (.Pass ⟨0, 0, 0, 0⟩)
abbrev c_SayError : Stmt := top 1
abbrev c_InvalidKind : Stmt := top 2
abbrev d_entry : Stmt := top 4
abbrev d_is_whole : Stmt := top 7
abbrev d_is_kind : Stmt := top 8
abbrev d__is_letter : Stmt := top 9
abbrev d_check_kind : Stmt := top 10
abbrev d__parts : Stmt := top 11
abbrev d_labels_of : Stmt := top 12
abbrev d_folded : Stmt := top 13
abbrev d_with_labels : Stmt := top 14
abbrev d_paths : Stmt := top 15
abbrev d_is_machine : Stmt := top 19
abbrev d__is_row : Stmt := top 20
abbrev d_signs : Stmt := top 21
abbrev d_state_of : Stmt := top 22
abbrev d_accepts : Stmt := top 23
abbrev d_mark : Stmt := top 24
abbrev d__law_tape : Stmt := top 26
abbrev d__law_take : Stmt := top 27
abbrev d__law_is_integer : Stmt := top 28
abbrev d__law_same_items : Stmt := top 29
abbrev d__law_same : Stmt := top 30
abbrev d__law_kind : Stmt := top 31
abbrev d__law_shape : Stmt := top 32
abbrev d__law_paths : Stmt := top 33
abbrev d__law_part : Stmt := top 34
abbrev d__law_text : Stmt := top 35
abbrev d__law_all : Stmt := top 36
abbrev d__law_signs : Stmt := top 37
abbrev d__law_above : Stmt := top 38
abbrev d__law_run : Stmt := top 39
abbrev d__law_rows : Stmt := top 40
abbrev d__law_accepts : Stmt := top 41
abbrev d__law_marked : Stmt := top 42
abbrev d__law_draw_machine : Stmt := top 43
abbrev d__law_draw_marked : Stmt := top 44
abbrev d__law_is_row : Stmt := top 45
abbrev d__law_is_machine : Stmt := top 46
abbrev d__law_spoilt : Stmt := top 47
abbrev d_law : Stmt := top 48
end Y


set_option Elab.async false
set_option linter.all false
set_option maxRecDepth 100000
set_option maxHeartbeats 2000000
namespace Y
open PySem PySem.Spec PyProof.Rows L2 StX
local macro_rules | `(tactic| push_cast [$xs,*]) => `(tactic| repeat (first | (with_reducible first | refine g_c ?_ | (refine g_v ?_; first | refine g_var0 ?_ | refine g_var1 ?_ | refine g_var2 ?_ | refine g_var3 ?_ | refine g_var4 ?_ | refine g_var5 ?_ | refine g_var6 ?_ | refine g_var7 ?_ | refine g_var8 ?_ | refine g_var9 ?_ | refine g_var10 ?_ | refine g_var11 ?_ | refine g_var12 ?_ | refine g_var13 ?_ | refine g_var14 ?_ | refine g_var15 ?_)) | ((with_reducible refine lf_go fun Q hQ => ?_); simp only [zipD, rslD, setSortD, finJ, slotsD, upg, ix_dicK, ix_dicT, ix_dicP, in_dicK, in_dicT, in_dicP, pkeyOf, seqD, revSeqD, spreadS, truD, slD, tyOk, appD, popD, extD, itemsOf, negD, putD, putC, sizeC, ty_non, ty_bl, ty_int, ty_str, ty_tup, ty_ktup, ty_lst, ty_pin, kitS, intO, addD, subD, mulD, modD, fdivD, shlD, shrD, bandD, borD, eq_ii, eq_ss, eq_bb, eq_tt, eq_ll, eq_tk, ordD, ltD, leD, gtD, geD, in_tup, in_ktup, in_lst, in_str, in_pin, inSq_str, inSq_int, isND, isNon, isBD, ix_tup, ix_ktup, ix_lst, ix_str, ix_pin, lookC, keyOf, keysOf, valS_nil, valS_cons, putS_nil, putS_cons, mergeS, kgetD, kixD, revD, wipeD, allD, len_tup, len_ktup, len_lst, len_str, len_pin, intD, absD, sumD, boolsD, tupD, listD, listP, dictC, lstOf, sqOf, frzC, allB, allI, allDk, ofString_inj, atI_0, atI_1, atI_2, atI_3, atI_1m1, atI_2m1, atI_2m2, atI_3m1, atI_3m2, atI_4m1, atI_4m2, cut_1, cut_2, cut_to1, cut_to2, cut_none, allD_map, List.map_cons, List.map_nil, List.length_cons, List.length_nil, List.length_append, List.length_map, List.length_set, List.replicate, List.nil_append, List.cons_append, List.append_nil, List.append_assoc, List.getElem?_cons_zero, List.getElem?_cons_succ, List.getElem?_nil, List.set_cons_zero, List.set_cons_succ, List.find?_cons, List.find?_nil, List.any_cons, List.any_nil, List.foldl_cons, List.foldl_nil, List.isEmpty_cons, List.isEmpty_nil, List.dropLast_concat, get_new, get_new1, get_new2, get_new3, set_new, set_new1, set_new2, set_new3, Option.map_some, Option.map_none, Option.isSome_some, Option.isSome_none, Option.some.injEq, Sum.inr.injEq, Sum.inl.injEq, reduceCtorEq, if_true, if_false, ite_true, ite_false, Bool.false_eq_true, Bool.not_true, Bool.not_false, Bool.false_xor, Bool.true_xor, Bool.xor_false, Bool.xor_true, decide_true, decide_false, decide_eq_true_eq, true_and, and_true, false_and, and_false, Bool.or_true, Bool.or_false, Bool.true_or, Bool.false_or, Bool.and_true, Bool.and_false, Bool.true_and, Bool.false_and, not_true_eq_false, not_false_eq_true, Nat.reduceAdd, Nat.reduceSub, Nat.reduceLeDiff, Nat.reduceLT, Nat.reduceEqDiff, Nat.reduceMul, Int.reduceLE, Int.reduceLT, Int.reduceEq, Int.reduceAdd, Int.reduceSub, Int.reduceNeg, Int.reduceMul, Int.reduceToNat, String.reduceEq, String.reduceBEq, reduceIte, Int.cast_ofNat_Int, Nat.zero_add, rng_0, rng_1, rng_2, rng_3, Nat.add_one_sub_one, List.reverse_nil, strsOf_nil, strsOf_cons, strsOf_map, intsOf_nil, intsOf_cons, intsOf_map, List.mem_cons, List.not_mem_nil, or_false, false_or, or_true, true_or, allB_map, allI_map, allB_mapf, allI_mapf, get_newm, allD_app, allD_mapf, isEmpty_snoc, $xs,*]; subst hQ; try dsimp only) | (with_reducible first | refine g_op ?_ | refine g_cons ?_ | refine g_nil ?_ | refine g_test ?_ | refine g_asB ?_ | refine g_true ?_ | refine g_false ?_ | refine g_dec ?_ | refine g_seq ?_ | refine g_un ?_ | refine g_b ?_ | refine g_nt ?_ | refine g_ifS ?_ | refine g_ret ?_ | refine g_next ?_ | (refine g_st ?_; first | refine g_set0 ?_ | refine g_set1 ?_ | refine g_set2 ?_ | refine g_set3 ?_ | refine g_set4 ?_ | refine g_set5 ?_ | refine g_set6 ?_ | refine g_set7 ?_ | refine g_set8 ?_ | refine g_set9 ?_ | refine g_set10 ?_ | refine g_set11 ?_ | refine g_set12 ?_ | refine g_set13 ?_ | refine g_set14 ?_ | refine g_set15 ?_) | (refine g_gn ?_; first | refine g_gn0 ?_ | refine g_gn1 ?_ | refine g_gn2 ?_ | refine g_gn3 ?_ | refine g_gn4 ?_ | refine g_gn5 ?_ | refine g_gn6 ?_ | refine g_gn7 ?_ | refine g_gn8 ?_ | refine g_gn9 ?_ | refine g_gn10 ?_ | refine g_gn11 ?_ | refine g_gn12 ?_ | refine g_gn13 ?_ | refine g_gn14 ?_ | refine g_gn15 ?_) | refine g_lf1 ?_ | refine g_lf2 ?_ | refine g_notTv ?_ | refine g_andT ?_ | refine g_orT ?_ | refine g_notT ?_ | refine g_mt ?_ | refine g_mt0 ?_ | refine g_drop ?_ | refine g_tup ?_ | refine g_lstD ?_ | refine g_lst ?_ | refine g_if ?_ | refine g_call ?_ | refine g_callG ?_ | refine g_callX ?_ | refine g_callGX ?_ | refine g_tru ?_ | refine g_andV ?_ | refine g_orV ?_ | refine g_notV ?_ | refine g_sl ?_ | refine g_noPart ?_ | refine g_part ?_ | refine g_partI ?_ | refine g_chain ?_ | refine g_putS ?_ | refine g_isi ?_ | refine g_star ?_ | refine g_for ?_ | refine g_lc ?_ | refine g_seqI ?_ | refine g_revI ?_ | refine g_rng1 ?_ | refine g_rng2 ?_ | refine g_gNil ?_ | refine g_gCons ?_ | refine g_gTup2 ?_ | refine g_gTup3 ?_ | refine g_gTup4 ?_ | refine g_yes ?_ | refine g_retN ?_ | refine g_break ?_ | refine g_cont ?_ | refine g_finD ?_ | refine g_finD2 ?_ | refine g_finP ?_ | refine g_lcB ?_ | refine g_lcNil ?_ | refine g_lcCons ?_ | refine g_forNil ?_ | refine g_forCons ?_ | refine g_rtP ?_ | refine g_rtPin ?_ | refine g_disp ?_ | refine g_pairs0 ?_ | refine g_pairsS ?_ | refine g_pairsI ?_ | refine g_newK ?_ | refine g_newT ?_ | refine g_newP ?_ | refine g_zipI ?_ | refine g_revrng ?_ | refine g_lcN ?_ | refine g_mid ?_ | refine g_elt ?_ | refine g_lcTNil ?_ | refine g_lcTCons ?_ | refine g_dc ?_ | refine g_dcNil ?_ | refine g_dcCons ?_ | refine g_lam ?_ | refine g_callB ?_ | refine g_loc rfl ?_ | refine g_locC rfl ?_) | ((with_reducible refine g_pos ?_ ?_); · first | assumption | rfl | omega) | ((with_reducible refine g_neg ?_ ?_); · first | assumption | omega | decide) | ((with_reducible refine And.intro ?_ ?_); · first | trivial | assumption | omega | exact Or.inr (by decide) | (dsimp only; omega) | (simp; done))))
local macro_rules | `(tactic| norm_cast) => `(tactic| ((first | with_reducible refine g_endsG ?_ | with_reducible refine g_endsP ?_); simp only [start_eq, List.map_cons, List.map_nil, List.replicate, List.length_cons, List.length_nil, Nat.reduceAdd, Nat.reduceSub, Nat.zero_add, List.cons_append, List.nil_append]))
theorem room65 {k : Nat} {A : Around} (r : Room k A) : A.units + 65 < cLine := by have := r.un; omega
/-! ### the tape -/
def tp (cells : List Int) (at_ left seed salt : Int) : Cell := .dK [(.inr "cells", .d (.lst (cells.map .int))), (.inr "at", .d (.int at_)), (.inr "left", .d (.int left)), (.inr "seed", .d (.int seed)), (.inr "salt", .d (.int salt))]
def Tp (c : Cell) : Prop := ∃ cells at_ left seed salt, c = tp cells at_ left seed salt ∧ 0 ≤ at_
theorem sc__law_tape : FnScope ["script", "cells", "cell", "seed"] ["script"] (defScope d__law_tape) := ⟨rfl, rfl, rfl, by decide +kernel, rfl, by decide +kernel, by decide +kernel⟩
theorem sc__law_take : FnScope ["tape", "many", "drawn", "mixed"] ["tape", "many"] (defScope d__law_take) := ⟨rfl, rfl, rfl, by decide +kernel, rfl, by decide +kernel, by decide +kernel⟩
def GTape : CG := fun ss ω q => ∃ ns : List Int, ss = [.d (.klst (ns.map .int))] ∧ ns.length ≤ 63 ∧ ∀ c, Tp c → q (.pin ω.length) (ω ++ [c])
def GTake : CG := fun ss ω q => ∃ (j : Nat) (m : Int) (c : Cell), ss = [.pin j, .d (.int m)] ∧ ω[j]? = some c ∧ Tp c ∧ 0 < m ∧ m < 1000 ∧ ∀ z c', Tp c' → 0 ≤ z → z < m → q (.d (.int z)) (ω.set j c')
section
variable {P : Program} {w : World} [Tb w] {K : PySem.W.Frag} {mg : Str → Option Value} {base : Heap}
theorem ok_tape {k : Nat} (bu : Bu mg) (Dn : Dfn K mg "_law_tape" ["script"] d__law_tape) : Cal P w K mg base CX0 (k+1) "_law_tape" ["script"] (spG K GTape) := by
  refine calG Dn sc__law_tape (fun ss ω q h => ?_) fun f cdv A outer s H E ss ω q hr h => ?_
  · obtain ⟨ns, rfl, _⟩ := h
    rfl
  have hu := hu_of hr
  have hu64 := hr.units
  have hu65 := room65 hr
  have hpass := @PassesOwn.never
  obtain ⟨ns, rfl, hn, hq⟩ := h
  refine ⟨_, _, (ys_cons (y_setLc finD_ok (i := 1) (own := [("cell", 2)]) rfl sc__law_tape.nd rfl rfl (sw_true rfl rfl rfl (by decide +kernel)) (yi_seq (y_var 0)) (blkOk_by (own := [("cell", 2)]) (N := ["script", "cells", "cell", "seed"]) (sc := defScope d__law_tape) (by decide +kernel)) go_name (fun _ _ _ _ _ => (yg_name (i := 2) sc__law_tape.nd rfl)) (fun _ _ _ _ _ => yts_nil) (fun _ _ _ _ _ => (y_absC bu (ya_cons (y_intC bu (ya_cons (y_var 2) ya_nil)) ya_nil))))
      (ys_cons (y_set (i := 3) sc__law_tape.nd rfl y_int)
      (ys_cons (y_for hpass rfl (yi_seq (y_var 1)) (yg_name (i := 2) sc__law_tape.nd rfl) (ys_one (y_set (i := 3) sc__law_tape.nd rfl (y_mod (y_intC bu (ya_cons (y_add (y_mul (y_var 3) y_int) (y_var 2)) ya_nil)) y_int))))
      (ys_one (y_ret (y_disp (ypps_cons y_str (y_var 1) (ypps_cons y_str y_int (ypps_cons y_str y_int (ypps_cons y_str (y_var 3) (ypps_cons y_str y_int ypps_nil))))) (by rfl) (by rfl) (fun z => by cases z) (by decide))))))), ?_⟩
  norm_cast
  push_cast []
  refine lc_mapD (fun d => match d with | .int z => .int (if z < 0 then -z else z) | d => d) (by rw [List.length_map]; omega) (fun s hm acc k h1 h2 => ?_) ?_
  · obtain ⟨z, _, rfl⟩ := List.mem_map.mp hm
    push_cast [h1]
    exact h2
  have e : (ns.map D.int).map (fun d => match d with | .int z => .int (if z < 0 then -z else z) | d => d) = (ns.map fun z => if z < 0 then -z else z).map D.int := by
    rw [List.map_map, List.map_map]; rfl
  rw [e]
  generalize (ns.map fun z => if z < 0 then -z else z) = ms
  push_cast []
  refine for_ind (fun is ρ ω' => (∃ y z, ρ = [some (.d (.klst (ns.map .int))), some (.d (.lst (ms.map .int))), y, some (.d (.int z))]) ∧ ω' = ω ∧ ∀ s ∈ is, ∃ z, s = .d (.int z)) ⟨⟨none, 7, rfl⟩, rfl, fun s hs => ?_⟩ (fun s r ρ ω' nx h hn => ?_) (fun ρ ω' h => ?_)
  · rw [List.map_map] at hs
    obtain ⟨z, _, rfl⟩ := List.mem_map.mp hs
    exact ⟨z, rfl⟩
  · obtain ⟨⟨y, z, rfl⟩, rfl, hi⟩ := h
    obtain ⟨c, rfl⟩ := hi s (by simp)
    push_cast []
    exact hn _ _ trivial ⟨⟨_, _, rfl⟩, rfl, fun s hs => hi s (by simp [hs])⟩
  · obtain ⟨⟨y, z, rfl⟩, rfl, hi⟩ := h
    push_cast []
    exact hq _ ⟨ms, 0, 0, z, 0, rfl, Int.le_refl 0⟩
theorem ok_take {k : Nat} (bu : Bu mg) (Dn : Dfn K mg "_law_take" ["tape", "many"] d__law_take) : Cal P w K mg base CX0 (k+1) "_law_take" ["tape", "many"] (spG K GTake) := by
  refine calG Dn sc__law_take (fun ss ω q h => ?_) fun f cdv A outer s H E ss ω q hr h => ?_
  · obtain ⟨j, m, c, rfl, _⟩ := h
    rfl
  have hu := hu_of hr
  have hu64 := hr.units
  have hu65 := room65 hr
  have hpass := @PassesOwn.never
  obtain ⟨j, m, c, rfl, hj, ⟨cells, at_, left, seed, salt, rfl, ha⟩, h0, h1, hq⟩ := h
  refine ⟨_, _, (ys_cons (y_ifS (yt_w (yw_and (yt_cmp (op_eqY hu64) refO_eq (y_ix hu (y_var 0) y_str (fun _ _ => rfl)) y_int (nomark _)) (yw_and1 (yt_cmp op_ltY refO_ord (y_ix hu (y_var 0) y_str (fun _ _ => rfl)) (y_len bu (ya_cons (y_ix hu (y_var 0) y_str (fun _ _ => rfl)) ya_nil)) (nomark _))))) (ys_cons (y_dput hu (y_var 0) y_str (y_ix hu (y_ix hu (y_var 0) y_str (fun _ _ => rfl)) (y_ix hu (y_var 0) y_str (fun _ _ => rfl)) (fun _ _ => rfl)))
        (ys_one (y_dput hu (y_var 0) y_str (y_add (y_ix hu (y_var 0) y_str (fun _ _ => rfl)) y_int)))) ys_nil)
      (ys_cons (y_ifS (yt_cmp op_gtY refO_ord (y_ix hu (y_var 0) y_str (fun _ _ => rfl)) y_int (nomark _)) (ys_cons (y_set (i := 2) sc__law_take.nd rfl (y_mod (y_intC bu (ya_cons (y_ix hu (y_var 0) y_str (fun _ _ => rfl)) ya_nil)) (y_var 1)))
        (ys_cons (y_dput hu (y_var 0) y_str (y_fdiv (y_ix hu (y_var 0) y_str (fun _ _ => rfl)) (y_var 1)))
        (ys_one (y_ret (y_var 2))))) ys_nil)
      (ys_cons (y_dput hu (y_var 0) y_str (y_add (y_ix hu (y_var 0) y_str (fun _ _ => rfl)) y_int))
      (ys_cons (y_set (i := 3) sc__law_take.nd rfl (y_mod (y_intC bu (ya_cons (y_add (y_mul (y_ix hu (y_var 0) y_str (fun _ _ => rfl)) y_int) (y_mul (y_ix hu (y_var 0) y_str (fun _ _ => rfl)) y_int)) ya_nil)) y_int))
      (ys_cons (y_set (i := 3) sc__law_take.nd rfl (y_mod (y_intC bu (ya_cons (y_add (y_add (y_mul (y_var 3) (y_var 3)) (y_mul (y_ix hu (y_var 0) y_str (fun _ _ => rfl)) y_int)) y_int) ya_nil)) y_int))
      (ys_one (y_ret (y_mod (y_intC bu (ya_cons (y_var 3) ya_nil)) (y_var 1))))))))), ?_⟩
  have hl := (List.getElem?_eq_some_iff.mp hj).1
  have hs := fun c => @List.getElem?_set_self Cell ω j c hl
  norm_cast
  refine seq_go fun N hN => ?_
  have rest : ∀ (ρ : Env) cells at_ left seed salt, ρ = [some (.pin j), some (.d (.int m)), none, none] → 0 ≤ at_ → N ρ (ω.set j (tp cells at_ left seed salt)) := by
    subst hN
    intro ρ cells at_ left seed salt e ha
    subst e
    have hm : m ≠ 0 := by omega
    have cm : ∀ i : Int, CMul (i.fmod 2147483647) (i.fmod 2147483647) := fun i => by
      have h1 := Int.fmod_nonneg_of_pos i (b := 2147483647) (by decide)
      have h2 := Int.fmod_lt_of_pos i (b := 2147483647) (by decide)
      exact .inl ⟨by omega, by omega⟩
    have hd : CDivN left m := ⟨hm, by omega⟩
    have f0 : ∀ i : Int, 0 ≤ i.fmod m := fun i => Int.fmod_nonneg_of_pos i h0
    have f1 : ∀ i : Int, i.fmod m < m := fun i => Int.fmod_lt_of_pos i h0
    unfold tp
    push_cast [hs, List.set_set, ne_eq, hm, hd]
    split
    · push_cast [hs, List.set_set, ne_eq, hm, hd]
      exact hq _ _ ⟨_, _, _, _, _, rfl, ha⟩ (f0 _) (f1 _)
    · push_cast [hs, List.set_set, ne_eq, hm, hd]
      refine ⟨cm _, ?_⟩
      push_cast [hs, List.set_set, ne_eq, hm, hd]
      exact hq _ _ ⟨_, _, _, _, _, rfl, ha⟩ (f0 _) (f1 _)
  unfold tp at hj
  have e := set_same hj
  push_cast [hj, hs, List.set_set]
  split
  · push_cast [hj, hs, List.set_set]
    split
    · rename_i h3
      obtain ⟨n, rfl⟩ := Int.eq_ofNat_of_zero_le ha
      have hn : n < cells.length := by
        have h3 : ((n : Nat) : Int) < (cells.length : Int) := h3
        omega
      have h4 : (cells.map D.int)[n]? = some (.int cells[n]) := by simp [hn]
      push_cast [hj, hs, List.set_set, atI_nat, h4]
      exact rest _ _ _ _ _ _ rfl (by omega)
    · push_cast [hj, hs, List.set_set]
      rw [e]
      exact rest _ _ _ _ _ _ rfl ha
  · push_cast [hj, hs, List.set_set]
    rw [e]
    exact rest _ _ _ _ _ _ rfl ha
end
end Y


set_option Elab.async false
set_option linter.all false
set_option maxRecDepth 100000
set_option maxHeartbeats 2000000
namespace Y
open PySem PySem.Spec PyProof.Rows L2 StX
local macro_rules | `(tactic| push_cast [$xs,*]) => `(tactic| repeat (first | (with_reducible first | refine g_c ?_ | (refine g_v ?_; first | refine g_var0 ?_ | refine g_var1 ?_ | refine g_var2 ?_ | refine g_var3 ?_ | refine g_var4 ?_ | refine g_var5 ?_ | refine g_var6 ?_ | refine g_var7 ?_ | refine g_var8 ?_ | refine g_var9 ?_ | refine g_var10 ?_ | refine g_var11 ?_ | refine g_var12 ?_ | refine g_var13 ?_ | refine g_var14 ?_ | refine g_var15 ?_)) | ((with_reducible refine lf_go fun Q hQ => ?_); simp only [zipD, rslD, setSortD, finJ, slotsD, upg, ix_dicK, ix_dicT, ix_dicP, in_dicK, in_dicT, in_dicP, pkeyOf, seqD, revSeqD, spreadS, truD, slD, tyOk, appD, popD, extD, itemsOf, negD, putD, putC, sizeC, ty_non, ty_bl, ty_int, ty_str, ty_tup, ty_ktup, ty_lst, ty_pin, kitS, intO, addD, subD, mulD, modD, fdivD, shlD, shrD, bandD, borD, eq_ii, eq_ss, eq_bb, eq_tt, eq_ll, eq_tk, ordD, ltD, leD, gtD, geD, in_tup, in_ktup, in_lst, in_str, in_pin, inSq_str, inSq_int, isND, isNon, isBD, ix_tup, ix_ktup, ix_lst, ix_str, ix_pin, lookC, keyOf, keysOf, valS_nil, valS_cons, putS_nil, putS_cons, mergeS, kgetD, kixD, revD, wipeD, allD, len_tup, len_ktup, len_lst, len_str, len_pin, intD, absD, sumD, boolsD, tupD, listD, listP, dictC, lstOf, sqOf, frzC, allB, allI, allDk, ofString_inj, atI_0, atI_1, atI_2, atI_3, atI_1m1, atI_2m1, atI_2m2, atI_3m1, atI_3m2, atI_4m1, atI_4m2, cut_1, cut_2, cut_to1, cut_to2, cut_none, allD_map, List.map_cons, List.map_nil, List.length_cons, List.length_nil, List.length_append, List.length_map, List.length_set, List.replicate, List.nil_append, List.cons_append, List.append_nil, List.append_assoc, List.getElem?_cons_zero, List.getElem?_cons_succ, List.getElem?_nil, List.set_cons_zero, List.set_cons_succ, List.find?_cons, List.find?_nil, List.any_cons, List.any_nil, List.foldl_cons, List.foldl_nil, List.isEmpty_cons, List.isEmpty_nil, List.dropLast_concat, get_new, get_new1, get_new2, get_new3, set_new, set_new1, set_new2, set_new3, Option.map_some, Option.map_none, Option.isSome_some, Option.isSome_none, Option.some.injEq, Sum.inr.injEq, Sum.inl.injEq, reduceCtorEq, if_true, if_false, ite_true, ite_false, Bool.false_eq_true, Bool.not_true, Bool.not_false, Bool.false_xor, Bool.true_xor, Bool.xor_false, Bool.xor_true, decide_true, decide_false, decide_eq_true_eq, true_and, and_true, false_and, and_false, Bool.or_true, Bool.or_false, Bool.true_or, Bool.false_or, Bool.and_true, Bool.and_false, Bool.true_and, Bool.false_and, not_true_eq_false, not_false_eq_true, Nat.reduceAdd, Nat.reduceSub, Nat.reduceLeDiff, Nat.reduceLT, Nat.reduceEqDiff, Nat.reduceMul, Int.reduceLE, Int.reduceLT, Int.reduceEq, Int.reduceAdd, Int.reduceSub, Int.reduceNeg, Int.reduceMul, Int.reduceToNat, String.reduceEq, String.reduceBEq, reduceIte, Int.cast_ofNat_Int, Nat.zero_add, rng_0, rng_1, rng_2, rng_3, Nat.add_one_sub_one, List.reverse_nil, strsOf_nil, strsOf_cons, strsOf_map, intsOf_nil, intsOf_cons, intsOf_map, List.mem_cons, List.not_mem_nil, or_false, false_or, or_true, true_or, allB_map, allI_map, allB_mapf, allI_mapf, get_newm, allD_app, allD_mapf, isEmpty_snoc, $xs,*]; subst hQ; try dsimp only) | (with_reducible first | refine g_op ?_ | refine g_cons ?_ | refine g_nil ?_ | refine g_test ?_ | refine g_asB ?_ | refine g_true ?_ | refine g_false ?_ | refine g_dec ?_ | refine g_seq ?_ | refine g_un ?_ | refine g_b ?_ | refine g_nt ?_ | refine g_ifS ?_ | refine g_ret ?_ | refine g_next ?_ | (refine g_st ?_; first | refine g_set0 ?_ | refine g_set1 ?_ | refine g_set2 ?_ | refine g_set3 ?_ | refine g_set4 ?_ | refine g_set5 ?_ | refine g_set6 ?_ | refine g_set7 ?_ | refine g_set8 ?_ | refine g_set9 ?_ | refine g_set10 ?_ | refine g_set11 ?_ | refine g_set12 ?_ | refine g_set13 ?_ | refine g_set14 ?_ | refine g_set15 ?_) | (refine g_gn ?_; first | refine g_gn0 ?_ | refine g_gn1 ?_ | refine g_gn2 ?_ | refine g_gn3 ?_ | refine g_gn4 ?_ | refine g_gn5 ?_ | refine g_gn6 ?_ | refine g_gn7 ?_ | refine g_gn8 ?_ | refine g_gn9 ?_ | refine g_gn10 ?_ | refine g_gn11 ?_ | refine g_gn12 ?_ | refine g_gn13 ?_ | refine g_gn14 ?_ | refine g_gn15 ?_) | refine g_lf1 ?_ | refine g_lf2 ?_ | refine g_notTv ?_ | refine g_andT ?_ | refine g_orT ?_ | refine g_notT ?_ | refine g_mt ?_ | refine g_mt0 ?_ | refine g_drop ?_ | refine g_tup ?_ | refine g_lstD ?_ | refine g_lst ?_ | refine g_if ?_ | refine g_call ?_ | refine g_callG ?_ | refine g_callX ?_ | refine g_callGX ?_ | refine g_tru ?_ | refine g_andV ?_ | refine g_orV ?_ | refine g_notV ?_ | refine g_sl ?_ | refine g_noPart ?_ | refine g_part ?_ | refine g_partI ?_ | refine g_chain ?_ | refine g_putS ?_ | refine g_isi ?_ | refine g_star ?_ | refine g_for ?_ | refine g_lc ?_ | refine g_seqI ?_ | refine g_revI ?_ | refine g_rng1 ?_ | refine g_rng2 ?_ | refine g_gNil ?_ | refine g_gCons ?_ | refine g_gTup2 ?_ | refine g_gTup3 ?_ | refine g_gTup4 ?_ | refine g_yes ?_ | refine g_retN ?_ | refine g_break ?_ | refine g_cont ?_ | refine g_finD ?_ | refine g_finD2 ?_ | refine g_finP ?_ | refine g_lcB ?_ | refine g_lcNil ?_ | refine g_lcCons ?_ | refine g_forNil ?_ | refine g_forCons ?_ | refine g_rtP ?_ | refine g_rtPin ?_ | refine g_disp ?_ | refine g_pairs0 ?_ | refine g_pairsS ?_ | refine g_pairsI ?_ | refine g_newK ?_ | refine g_newT ?_ | refine g_newP ?_ | refine g_zipI ?_ | refine g_revrng ?_ | refine g_lcN ?_ | refine g_mid ?_ | refine g_elt ?_ | refine g_lcTNil ?_ | refine g_lcTCons ?_ | refine g_dc ?_ | refine g_dcNil ?_ | refine g_dcCons ?_ | refine g_lam ?_ | refine g_callB ?_ | refine g_loc rfl ?_ | refine g_locC rfl ?_) | ((with_reducible refine g_pos ?_ ?_); · first | assumption | rfl | omega) | ((with_reducible refine g_neg ?_ ?_); · first | assumption | omega | decide) | ((with_reducible refine And.intro ?_ ?_); · first | trivial | assumption | omega | exact Or.inr (by decide) | (dsimp only; omega) | (simp; done))))
local macro_rules | `(tactic| norm_cast) => `(tactic| ((first | with_reducible refine g_endsG ?_ | with_reducible refine g_endsP ?_); simp only [start_eq, List.map_cons, List.map_nil, List.replicate, List.length_cons, List.length_nil, Nat.reduceAdd, Nat.reduceSub, Nat.zero_add, List.cons_append, List.nil_append]))
/-! ### same: what two values are told to be -/
mutual
def sameD : D → D → Bool
  | .non, a => isNon a
  | .bl b, a => match a with | .bl c => decide (c = b) | _ => false
  | .int b, a => match a with | .int c => decide (c = b) | _ => false
  | .str b, a => match a with | .str c => decide (c = b) | _ => false
  | .tup es, a => match a with | .tup as => sameDs es as | .ktup as => sameDs es as | _ => false
  | .ktup es, a => match a with | .tup as => sameDs es as | .ktup as => sameDs es as | _ => false
  | .lst es, a => match a with | .lst as => sameDs es as | _ => false
  | .klst _, _ => false
  | .fn _, _ => false
  | .dicK _ _, _ => false
  | .dicT _ _, _ => false
  | .dicP _ _, _ => false
  | .clo _ _ _ _ _ _, _ => false
def sameDs : List D → List D → Bool
  | [], [] => true
  | e :: es, a :: as => sameD e a && sameDs es as
  | [], _ :: _ => false
  | _ :: _, [] => false
end
mutual
/-- no functions, no list of the script; short; not deeper than n -/
def goodD : Nat → D → Bool
  | _ + 1, .non => true
  | _ + 1, .bl _ => true
  | _ + 1, .int _ => true
  | _ + 1, .str _ => true
  | n + 1, .tup ds => decide (ds.length ≤ 100000) && goodDs n ds
  | n + 1, .ktup ds => decide (ds.length ≤ 100000) && goodDs n ds
  | n + 1, .lst ds => decide (ds.length ≤ 100000) && goodDs n ds
  | _, _ => false
def goodDs : Nat → List D → Bool
  | _, [] => true
  | n, d :: ds => goodD n d && goodDs n ds
end
theorem goodDs_mem {n : Nat} : ∀ {ds : List D} {d : D}, goodDs n ds = true → d ∈ ds → goodD n d = true
  | a :: ds, d, h, m => by
    rw [goodDs, Bool.and_eq_true] at h
    rcases List.mem_cons.mp m with rfl | m
    · exact h.1
    · exact goodDs_mem h.2 m
theorem sameDs_len : ∀ {es as : List D}, es.length ≠ as.length → sameDs es as = false
  | [], [], h => absurd rfl h
  | e :: es, a :: as, h => by
    rw [sameDs, sameDs_len (fun z => h (by rw [List.length_cons, List.length_cons, z])), Bool.and_false]
  | [], _ :: _, _ => by rw [sameDs]
  | _ :: _, [], _ => by rw [sameDs]
/-- a tuple or a list -/
def seqOf : D → Option (List D)
  | .tup ds => some ds
  | .ktup ds => some ds
  | .lst ds => some ds
  | _ => none
def CInt : CP := fun ds q => ∃ a m, ds = [a] ∧ goodD m a = true ∧ q (.bl (match a with | .int _ => true | _ => false))
def CSame (n : Nat) : CP := fun ds q => ∃ a e m, ds = [a, e] ∧ goodD n e = true ∧ goodD m a = true ∧ m ≤ 100 ∧ q (.bl (sameD e a))
def CItems (n : Nat) : CP := fun ds q => ∃ a e as es m, ds = [a, e] ∧ seqOf a = some as ∧ seqOf e = some es ∧ as.length ≤ 100000 ∧ es.length ≤ 100000 ∧ goodDs n es = true ∧ goodDs m as = true ∧ m ≤ 100 ∧ q (.bl (sameDs es as))
theorem sc__law_is_integer : FnScope ["actual"] ["actual"] (defScope d__law_is_integer) := ⟨rfl, rfl, rfl, by decide +kernel, rfl, by decide +kernel, by decide +kernel⟩
theorem sc__law_same_items : FnScope ["actual", "expected", "k"] ["actual", "expected"] (defScope d__law_same_items) := ⟨rfl, rfl, rfl, by decide +kernel, rfl, by decide +kernel, by decide +kernel⟩
theorem sc__law_same : FnScope ["actual", "expected", "key"] ["actual", "expected"] (defScope d__law_same) := ⟨rfl, rfl, rfl, by decide +kernel, rfl, by decide +kernel, by decide +kernel⟩
section
variable {P : Program} {w : World} [Tb w] {K : PySem.W.Frag} {mg : Str → Option Value} {base : Heap}
theorem ok_isint {k : Nat} (bu : Bu mg) (Dn : Dfn K mg "_law_is_integer" ["actual"] d__law_is_integer) : Cal P w K mg base CX0 (k+1) "_law_is_integer" ["actual"] (spP K CInt) := by
  refine calP Dn sc__law_is_integer (fun ds q h => ?_) fun f cdv A outer s H E ds q hr h => ?_
  · obtain ⟨a, m, rfl, _⟩ := h
    rfl
  obtain ⟨a, m, rfl, ha, hq⟩ := h
  refine ⟨_, _, (ys_one (y_ret (y_and (y_isi bu (y_var 0) bu.int rfl) (y_one (y_notT (y_isi bu (y_var 0) bu.bool rfl)))))), ?_⟩
  norm_cast
  cases a <;> first | (cases m <;> simp [goodD] at ha; done) | (push_cast [String.reduceBEq, String.reduceEq]; exact hq)
theorem ok_items {k n : Nat} (bu : Bu mg) (c__law_same : Cal P w K mg base CX0 k "_law_same" ["actual", "expected"] (spP K (CSame n))) (Dn : Dfn K mg "_law_same_items" ["actual", "expected"] d__law_same_items) : Cal P w K mg base CX0 (k+1) "_law_same_items" ["actual", "expected"] (spP K (CItems n)) := by
  refine calP Dn sc__law_same_items (fun ds q h => ?_) fun f cdv A outer s H E ds q hr h => ?_
  · obtain ⟨a, e, as, es, m, rfl, _⟩ := h
    rfl
  have hu := hu_of hr
  have hu64 := hr.units
  have hpass := @PassesOwn.never
  obtain ⟨a, e, as, es, m, rfl, ea, ee, ha, he, ge, ga, hm, hq⟩ := h
  refine ⟨_, _, (ys_cons (y_ifS (yt_cmp (op_neY hu64) refO_ne (y_len bu (ya_cons (y_var 0) ya_nil)) (y_len bu (ya_cons (y_var 1) ya_nil)) (nomark _)) (ys_one (y_ret y_bl)) ys_nil)
      (ys_cons (y_for hpass rfl (yi_range1 bu.range (ya_cons (y_len bu (ya_cons (y_var 1) ya_nil)) ya_nil)) (yg_name (i := 2) sc__law_same_items.nd rfl) (ys_one (y_ifS (yt_not (yt_tru (y_cal c__law_same hr (ya_cons (y_ix hu (y_var 0) (y_var 2) (fun _ _ => rfl)) (ya_cons (y_ix hu (y_var 1) (y_var 2) (fun _ _ => rfl)) ya_nil))))) (ys_one (y_ret y_bl)) ys_nil)))
      (ys_one (y_ret y_bl)))), ?_⟩
  norm_cast
  have la : ∀ (q : S → Sto → Prop) ω, lenD [.d a] ω q = q (.d (.int as.length)) ω := fun q ω => by
    cases a <;> simp only [seqOf, Option.some.injEq, reduceCtorEq] at ea <;> subst ea <;> rfl
  have le : ∀ (q : S → Sto → Prop) ω, lenD [.d e] ω q = q (.d (.int es.length)) ω := fun q ω => by
    cases e <;> simp only [seqOf, Option.some.injEq, reduceCtorEq] at ee <;> subst ee <;> rfl
  push_cast [la, le]
  by_cases hl : as.length = es.length
  · rw [if_pos (by omega)]
    push_cast [la, le]
    refine ⟨⟨by omega, by omega⟩, trivial, ?_⟩
    have ia : ∀ (i : Nat) d (q : S → Sto → Prop) ω, as[i]? = some d → ixD (.d a) (.d (.int (0 + (i : Nat)))) ω q = q (.d d) ω := fun i d q ω hi => by
      rw [Int.zero_add]
      cases a <;> simp only [seqOf, Option.some.injEq, reduceCtorEq] at ea <;> subst ea <;> simp only [ixD, atI_nat, hi]
    have ie : ∀ (i : Nat) d (q : S → Sto → Prop) ω, es[i]? = some d → ixD (.d e) (.d (.int (0 + (i : Nat)))) ω q = q (.d d) ω := fun i d q ω hi => by
      rw [Int.zero_add]
      cases e <;> simp only [seqOf, Option.some.injEq, reduceCtorEq] at ee <;> subst ee <;> simp only [ixD, atI_nat, hi]
    refine for_ind (fun is ρ ω => ∃ (j : Nat) (y : Option S), is = (List.range' j (es.length - j)).map (fun (i : Nat) => .d (.int (0 + (i : Nat)))) ∧ j ≤ es.length ∧ ρ = [some (.d a), some (.d e), y] ∧ ω = [] ∧ sameDs es as = sameDs (es.drop j) (as.drop j))
      ⟨0, none, by unfold rngS; rw [Int.toNat_natCast, List.range_eq_range']; rfl, by omega, rfl, rfl, rfl⟩ ?_ ?_
    · rintro s r ρ ω nx ⟨j, y, e1, hj, rfl, rfl, e2⟩ hnx
      by_cases hj2 : j = es.length
      · rw [hj2, Nat.sub_self] at e1
        cases e1
      have ej : es.length - j = (es.length - (j + 1)) + 1 := by omega
      rw [ej, List.range'_succ, List.map_cons] at e1
      obtain ⟨rfl, rfl⟩ := List.cons.inj e1
      have h1 : es[j]? = some es[j] := List.getElem?_eq_getElem (by omega)
      have h2 : as[j]? = some as[j] := List.getElem?_eq_getElem (by omega)
      rw [List.drop_eq_getElem_cons (by omega : j < es.length), List.drop_eq_getElem_cons (by omega : j < as.length), sameDs] at e2
      push_cast [ia j _ _ _ h2, ie j _ _ _ h1]
      refine ⟨_, _, m, rfl, goodDs_mem ge (List.getElem_mem _), goodDs_mem ga (List.getElem_mem _), hm, ?_⟩
      push_cast []
      cases hs : sameD es[j] as[j] with
      | true =>
        rw [hs, Bool.true_and] at e2
        push_cast []
        exact hnx _ _ trivial ⟨j + 1, _, rfl, by omega, rfl, rfl, e2⟩
      | false =>
        rw [hs, Bool.false_and] at e2
        push_cast []
        rw [e2] at hq
        exact hq
    · rintro ρ ω ⟨j, y, e1, hj, rfl, rfl, e2⟩
      have : j = es.length := by
        have := congrArg List.length e1
        simp at this
        omega
      subst this
      rw [List.drop_length, ← hl, List.drop_length, sameDs] at e2
      rw [e2] at hq
      push_cast []
      exact hq
  · rw [if_neg (by omega)]
    rw [sameDs_len (fun z => hl z.symm)] at hq
    push_cast []
    exact hq
theorem ok_same0 {k n : Nat} (bu : Bu mg) (c__law_is_integer : Cal P w K mg base CX0 k "_law_is_integer" ["actual"] (spP K CInt)) (c__law_same_items : Cal P w K mg base CX0 k "_law_same_items" ["actual", "expected"] (spP K (CItems n))) (Dn : Dfn K mg "_law_same" ["actual", "expected"] d__law_same) : Cal P w K mg base CX0 (k+1) "_law_same" ["actual", "expected"] (spP K (CSame (n + 1))) := by
  refine calP Dn sc__law_same (fun ds q h => ?_) fun f cdv A outer s H E ds q hr h => ?_
  · obtain ⟨a, e, m, rfl, _⟩ := h
    rfl
  have hu := hu_of hr
  have hu64 := hr.units
  have hpass := @PassesOwn.never
  obtain ⟨a, e, m, rfl, ge, ga, hm, hq⟩ := h
  refine ⟨_, _, (ys_cons (y_ifS (yt_cmp op_isN refO_isN (y_var 1) y_non (nomark _)) (ys_one (y_ret (y_cmp op_isN refO_isN (y_var 0) y_non (nomark _)))) ys_nil)
      (ys_cons (y_ifS (yt_tru (y_isi bu (y_var 1) bu.bool rfl)) (ys_one (y_ret (y_and (y_isi bu (y_var 0) bu.bool rfl) (y_one (y_cmp (op_eqY hu64) refO_eq (y_var 0) (y_var 1) (nomark _)))))) ys_nil)
      (ys_cons (y_ifS (yt_tru (y_isi bu (y_var 1) bu.int rfl)) (ys_one (y_ret (y_and (y_cal c__law_is_integer hr (ya_cons (y_var 0) ya_nil)) (y_one (y_cmp (op_eqY hu64) refO_eq (y_var 0) (y_var 1) (nomark _)))))) ys_nil)
      (ys_cons (y_ifS (yt_tru (y_isi bu (y_var 1) bu.str rfl)) (ys_one (y_ret (y_and (y_isi bu (y_var 0) bu.str rfl) (y_one (y_cmp (op_eqY hu64) refO_eq (y_var 0) (y_var 1) (nomark _)))))) ys_nil)
      (ys_cons (y_ifS (yt_tru (y_isi bu (y_var 1) bu.tuple rfl)) (ys_one (y_ret (y_and (y_isi bu (y_var 0) bu.tuple rfl) (y_one (y_cal c__law_same_items hr (ya_cons (y_var 0) (ya_cons (y_var 1) ya_nil))))))) ys_nil)
      (ys_cons (y_ifS (yt_tru (y_isi bu (y_var 1) bu.list rfl)) (ys_one (y_ret (y_and (y_isi bu (y_var 0) bu.list rfl) (y_one (y_cal c__law_same_items hr (ya_cons (y_var 0) (ya_cons (y_var 1) ya_nil))))))) ys_nil)
      ys_never)))))), ?_⟩
  norm_cast
  cases e with
  | non =>
    push_cast []
    cases a <;> first | (cases m <;> simp [goodD] at ga; done) | (push_cast []; exact hq)
  | bl b =>
    push_cast []
    cases a <;> first | (cases m <;> simp [goodD] at ga; done) | (push_cast []; exact hq)
  | int b =>
    push_cast []
    cases a with
    | fn b => cases m <;> simp [goodD] at ga
    | klst b => cases m <;> simp [goodD] at ga
    | dicK _ _ => cases m <;> simp [goodD] at ga
    | dicT _ _ => cases m <;> simp [goodD] at ga
    | dicP _ _ => cases m <;> simp [goodD] at ga
    | clo _ _ _ _ _ _ => cases m <;> simp [goodD] at ga
    | _ => refine ⟨_, m, rfl, ga, ?_⟩; push_cast []; exact hq
  | str b =>
    push_cast []
    cases a <;> first | (cases m <;> simp [goodD] at ga; done) | (push_cast []; exact hq)
  | fn b => simp [goodD] at ge
  | klst b => simp [goodD] at ge
  | dicK _ _ => simp [goodD] at ge
  | dicT _ _ => simp [goodD] at ge
  | dicP _ _ => simp [goodD] at ge
  | clo _ _ _ _ _ _ => simp [goodD] at ge
  | tup es =>
    obtain ⟨le, ge⟩ : es.length ≤ 100000 ∧ goodDs n es = true := by simpa [goodD] using ge
    push_cast []
    cases a with
    | fn b => cases m <;> simp [goodD] at ga
    | klst b => cases m <;> simp [goodD] at ga
    | dicK _ _ => cases m <;> simp [goodD] at ga
    | dicT _ _ => cases m <;> simp [goodD] at ga
    | dicP _ _ => cases m <;> simp [goodD] at ga
    | clo _ _ _ _ _ _ => cases m <;> simp [goodD] at ga
    | tup as =>
      cases m with
      | zero => simp [goodD] at ga
      | succ m =>
        obtain ⟨la, ga⟩ : as.length ≤ 100000 ∧ goodDs m as = true := by simpa [goodD] using ga
        push_cast []
        refine ⟨_, _, as, es, m, rfl, rfl, rfl, la, le, ge, ga, by omega, ?_⟩
        push_cast []
        rw [sameD] at hq
        exact hq
    | ktup as =>
      cases m with
      | zero => simp [goodD] at ga
      | succ m =>
        obtain ⟨la, ga⟩ : as.length ≤ 100000 ∧ goodDs m as = true := by simpa [goodD] using ga
        push_cast []
        refine ⟨_, _, as, es, m, rfl, rfl, rfl, la, le, ge, ga, by omega, ?_⟩
        push_cast []
        rw [sameD] at hq
        exact hq
    | _ => push_cast []; exact hq
  | ktup es =>
    obtain ⟨le, ge⟩ : es.length ≤ 100000 ∧ goodDs n es = true := by simpa [goodD] using ge
    push_cast []
    cases a with
    | fn b => cases m <;> simp [goodD] at ga
    | klst b => cases m <;> simp [goodD] at ga
    | dicK _ _ => cases m <;> simp [goodD] at ga
    | dicT _ _ => cases m <;> simp [goodD] at ga
    | dicP _ _ => cases m <;> simp [goodD] at ga
    | clo _ _ _ _ _ _ => cases m <;> simp [goodD] at ga
    | tup as =>
      cases m with
      | zero => simp [goodD] at ga
      | succ m =>
        obtain ⟨la, ga⟩ : as.length ≤ 100000 ∧ goodDs m as = true := by simpa [goodD] using ga
        push_cast []
        refine ⟨_, _, as, es, m, rfl, rfl, rfl, la, le, ge, ga, by omega, ?_⟩
        push_cast []
        rw [sameD] at hq
        exact hq
    | ktup as =>
      cases m with
      | zero => simp [goodD] at ga
      | succ m =>
        obtain ⟨la, ga⟩ : as.length ≤ 100000 ∧ goodDs m as = true := by simpa [goodD] using ga
        push_cast []
        refine ⟨_, _, as, es, m, rfl, rfl, rfl, la, le, ge, ga, by omega, ?_⟩
        push_cast []
        rw [sameD] at hq
        exact hq
    | _ => push_cast []; exact hq
  | lst es =>
    obtain ⟨le, ge⟩ : es.length ≤ 100000 ∧ goodDs n es = true := by simpa [goodD] using ge
    push_cast []
    cases a with
    | fn b => cases m <;> simp [goodD] at ga
    | klst b => cases m <;> simp [goodD] at ga
    | dicK _ _ => cases m <;> simp [goodD] at ga
    | dicT _ _ => cases m <;> simp [goodD] at ga
    | dicP _ _ => cases m <;> simp [goodD] at ga
    | clo _ _ _ _ _ _ => cases m <;> simp [goodD] at ga
    | lst as =>
      cases m with
      | zero => simp [goodD] at ga
      | succ m =>
        obtain ⟨la, ga⟩ : as.length ≤ 100000 ∧ goodDs m as = true := by simpa [goodD] using ga
        push_cast []
        refine ⟨_, _, as, es, m, rfl, rfl, rfl, la, le, ge, ga, by omega, ?_⟩
        push_cast []
        rw [sameD] at hq
        exact hq
    | _ => push_cast []; exact hq
/-- of any depth up to n; 2 n levels above the integers -/
theorem ok_same {k : Nat} (bu : Bu mg) (c__law_is_integer : Cal P w K mg base CX0 k "_law_is_integer" ["actual"] (spP K CInt)) (D1 : Dfn K mg "_law_same_items" ["actual", "expected"] d__law_same_items) (D2 : Dfn K mg "_law_same" ["actual", "expected"] d__law_same) : ∀ n, Cal P w K mg base CX0 (k+2*n) "_law_same" ["actual", "expected"] (spP K (CSame n))
  | 0 => cal_noP D2 fun ds q ⟨a, e, m, _, h, _⟩ => by cases e <;> simp [goodD] at h
  | n + 1 => (ok_same0 (n := n) bu (c__law_is_integer.mono (by omega)) (ok_items bu (ok_same bu c__law_is_integer D1 D2 n) D1) D2).mono (by omega)
end
end Y


set_option Elab.async false
set_option linter.all false
set_option maxRecDepth 100000
set_option maxHeartbeats 2000000
namespace Y
open PySem PySem.Spec PyProof.Rows L2 StX
local macro_rules | `(tactic| push_cast [$xs,*]) => `(tactic| repeat (first | (with_reducible first | refine g_c ?_ | (refine g_v ?_; first | refine g_var0 ?_ | refine g_var1 ?_ | refine g_var2 ?_ | refine g_var3 ?_ | refine g_var4 ?_ | refine g_var5 ?_ | refine g_var6 ?_ | refine g_var7 ?_ | refine g_var8 ?_ | refine g_var9 ?_ | refine g_var10 ?_ | refine g_var11 ?_ | refine g_var12 ?_ | refine g_var13 ?_ | refine g_var14 ?_ | refine g_var15 ?_)) | ((with_reducible refine lf_go fun Q hQ => ?_); simp only [zipD, rslD, setSortD, finJ, slotsD, upg, ix_dicK, ix_dicT, ix_dicP, in_dicK, in_dicT, in_dicP, pkeyOf, seqD, revSeqD, spreadS, truD, slD, tyOk, appD, popD, extD, itemsOf, negD, putD, putC, sizeC, ty_non, ty_bl, ty_int, ty_str, ty_tup, ty_ktup, ty_lst, ty_pin, kitS, intO, addD, subD, mulD, modD, fdivD, shlD, shrD, bandD, borD, eq_ii, eq_ss, eq_bb, eq_tt, eq_ll, eq_tk, ordD, ltD, leD, gtD, geD, in_tup, in_ktup, in_lst, in_str, in_pin, inSq_str, inSq_int, isND, isNon, isBD, ix_tup, ix_ktup, ix_lst, ix_str, ix_pin, lookC, keyOf, keysOf, valS_nil, valS_cons, putS_nil, putS_cons, mergeS, kgetD, kixD, revD, wipeD, allD, len_tup, len_ktup, len_lst, len_str, len_pin, intD, absD, sumD, boolsD, tupD, listD, listP, dictC, lstOf, sqOf, frzC, allB, allI, allDk, ofString_inj, atI_0, atI_1, atI_2, atI_3, atI_1m1, atI_2m1, atI_2m2, atI_3m1, atI_3m2, atI_4m1, atI_4m2, cut_1, cut_2, cut_to1, cut_to2, cut_none, allD_map, List.map_cons, List.map_nil, List.length_cons, List.length_nil, List.length_append, List.length_map, List.length_set, List.replicate, List.nil_append, List.cons_append, List.append_nil, List.append_assoc, List.getElem?_cons_zero, List.getElem?_cons_succ, List.getElem?_nil, List.set_cons_zero, List.set_cons_succ, List.find?_cons, List.find?_nil, List.any_cons, List.any_nil, List.foldl_cons, List.foldl_nil, List.isEmpty_cons, List.isEmpty_nil, List.dropLast_concat, get_new, get_new1, get_new2, get_new3, set_new, set_new1, set_new2, set_new3, Option.map_some, Option.map_none, Option.isSome_some, Option.isSome_none, Option.some.injEq, Sum.inr.injEq, Sum.inl.injEq, reduceCtorEq, if_true, if_false, ite_true, ite_false, Bool.false_eq_true, Bool.not_true, Bool.not_false, Bool.false_xor, Bool.true_xor, Bool.xor_false, Bool.xor_true, decide_true, decide_false, decide_eq_true_eq, true_and, and_true, false_and, and_false, Bool.or_true, Bool.or_false, Bool.true_or, Bool.false_or, Bool.and_true, Bool.and_false, Bool.true_and, Bool.false_and, not_true_eq_false, not_false_eq_true, Nat.reduceAdd, Nat.reduceSub, Nat.reduceLeDiff, Nat.reduceLT, Nat.reduceEqDiff, Nat.reduceMul, Int.reduceLE, Int.reduceLT, Int.reduceEq, Int.reduceAdd, Int.reduceSub, Int.reduceNeg, Int.reduceMul, Int.reduceToNat, String.reduceEq, String.reduceBEq, reduceIte, Int.cast_ofNat_Int, Nat.zero_add, rng_0, rng_1, rng_2, rng_3, Nat.add_one_sub_one, List.reverse_nil, strsOf_nil, strsOf_cons, strsOf_map, intsOf_nil, intsOf_cons, intsOf_map, List.mem_cons, List.not_mem_nil, or_false, false_or, or_true, true_or, allB_map, allI_map, allB_mapf, allI_mapf, get_newm, allD_app, allD_mapf, isEmpty_snoc, $xs,*]; subst hQ; try dsimp only) | (with_reducible first | refine g_op ?_ | refine g_cons ?_ | refine g_nil ?_ | refine g_test ?_ | refine g_asB ?_ | refine g_true ?_ | refine g_false ?_ | refine g_dec ?_ | refine g_seq ?_ | refine g_un ?_ | refine g_b ?_ | refine g_nt ?_ | refine g_ifS ?_ | refine g_ret ?_ | refine g_next ?_ | (refine g_st ?_; first | refine g_set0 ?_ | refine g_set1 ?_ | refine g_set2 ?_ | refine g_set3 ?_ | refine g_set4 ?_ | refine g_set5 ?_ | refine g_set6 ?_ | refine g_set7 ?_ | refine g_set8 ?_ | refine g_set9 ?_ | refine g_set10 ?_ | refine g_set11 ?_ | refine g_set12 ?_ | refine g_set13 ?_ | refine g_set14 ?_ | refine g_set15 ?_) | (refine g_gn ?_; first | refine g_gn0 ?_ | refine g_gn1 ?_ | refine g_gn2 ?_ | refine g_gn3 ?_ | refine g_gn4 ?_ | refine g_gn5 ?_ | refine g_gn6 ?_ | refine g_gn7 ?_ | refine g_gn8 ?_ | refine g_gn9 ?_ | refine g_gn10 ?_ | refine g_gn11 ?_ | refine g_gn12 ?_ | refine g_gn13 ?_ | refine g_gn14 ?_ | refine g_gn15 ?_) | refine g_lf1 ?_ | refine g_lf2 ?_ | refine g_notTv ?_ | refine g_andT ?_ | refine g_orT ?_ | refine g_notT ?_ | refine g_mt ?_ | refine g_mt0 ?_ | refine g_drop ?_ | refine g_tup ?_ | refine g_lstD ?_ | refine g_lst ?_ | refine g_if ?_ | refine g_call ?_ | refine g_callG ?_ | refine g_callX ?_ | refine g_callGX ?_ | refine g_tru ?_ | refine g_andV ?_ | refine g_orV ?_ | refine g_notV ?_ | refine g_sl ?_ | refine g_noPart ?_ | refine g_part ?_ | refine g_partI ?_ | refine g_chain ?_ | refine g_putS ?_ | refine g_isi ?_ | refine g_star ?_ | refine g_for ?_ | refine g_lc ?_ | refine g_seqI ?_ | refine g_revI ?_ | refine g_rng1 ?_ | refine g_rng2 ?_ | refine g_gNil ?_ | refine g_gCons ?_ | refine g_gTup2 ?_ | refine g_gTup3 ?_ | refine g_gTup4 ?_ | refine g_yes ?_ | refine g_retN ?_ | refine g_break ?_ | refine g_cont ?_ | refine g_finD ?_ | refine g_finD2 ?_ | refine g_finP ?_ | refine g_lcB ?_ | refine g_lcNil ?_ | refine g_lcCons ?_ | refine g_forNil ?_ | refine g_forCons ?_ | refine g_rtP ?_ | refine g_rtPin ?_ | refine g_disp ?_ | refine g_pairs0 ?_ | refine g_pairsS ?_ | refine g_pairsI ?_ | refine g_newK ?_ | refine g_newT ?_ | refine g_newP ?_ | refine g_zipI ?_ | refine g_revrng ?_ | refine g_lcN ?_ | refine g_mid ?_ | refine g_elt ?_ | refine g_lcTNil ?_ | refine g_lcTCons ?_ | refine g_dc ?_ | refine g_dcNil ?_ | refine g_dcCons ?_ | refine g_lam ?_ | refine g_callB ?_ | refine g_loc rfl ?_ | refine g_locC rfl ?_) | ((with_reducible refine g_pos ?_ ?_); · first | assumption | rfl | omega) | ((with_reducible refine g_neg ?_ ?_); · first | assumption | omega | decide) | ((with_reducible refine And.intro ?_ ?_); · first | trivial | assumption | omega | exact Or.inr (by decide) | (dsimp only; omega) | (simp; done))))
local macro_rules | `(tactic| norm_cast) => `(tactic| ((first | with_reducible refine g_endsG ?_ | with_reducible refine g_endsP ?_); simp only [start_eq, List.map_cons, List.map_nil, List.replicate, List.length_cons, List.length_nil, Nat.reduceAdd, Nat.reduceSub, Nat.zero_add, List.cons_append, List.nil_append]))
/-! ### what may be compared as a whole -/
mutual
def cleanD : Nat → D → Bool
  | _ + 1, .non => true
  | _ + 1, .bl _ => true
  | _ + 1, .int _ => true
  | _ + 1, .str x => PyData.strOk x
  | n + 1, .tup ds => cleanDs n ds
  | n + 1, .ktup ds => cleanDs n ds
  | n + 1, .lst ds => cleanDs n ds
  | _, _ => false
def cleanDs : Nat → List D → Bool
  | _, [] => true
  | n, d :: ds => cleanD n d && cleanDs n ds
end
mutual
theorem clean_ok : ∀ (n : Nat) (d : D), cleanD n d = true → pureD d = true ∧ (toP d).canLay0 = true ∧ (toP d).depth ≤ n
  | 0, d, h => by cases d <;> simp [cleanD] at h
  | n + 1, .non, _ => ⟨rfl, rfl, by simp [toP, PyData.depth]⟩
  | n + 1, .bl _, _ => ⟨rfl, rfl, by simp [toP, PyData.depth]⟩
  | n + 1, .int _, _ => ⟨rfl, rfl, by simp [toP, PyData.depth]⟩
  | n + 1, .str x, h => ⟨rfl, by simpa [toP, PyData.canLay0, cleanD] using h, by simp [toP, PyData.depth]⟩
  | n + 1, .tup ds, h => by
    obtain ⟨a, b, c⟩ := cleans_ok n ds (by simpa [cleanD] using h)
    exact ⟨by simpa [pureD] using a, by simpa [toP, PyData.canLay0] using b, by simp only [toP, PyData.depth]; omega⟩
  | n + 1, .ktup ds, h => by
    obtain ⟨a, b, c⟩ := cleans_ok n ds (by simpa [cleanD] using h)
    exact ⟨by simpa [pureD] using a, by simpa [toP, PyData.canLay0] using b, by simp only [toP, PyData.depth]; omega⟩
  | n + 1, .lst ds, h => by
    obtain ⟨a, b, c⟩ := cleans_ok n ds (by simpa [cleanD] using h)
    exact ⟨by simpa [pureD] using a, by simpa [toP, PyData.canLay0] using b, by simp only [toP, PyData.depth]; omega⟩
  | n + 1, .fn _, h => by simp [cleanD] at h
  | n + 1, .klst _, h => by simp [cleanD] at h
  | n + 1, .dicK _ _, h => by simp [cleanD] at h
  | n + 1, .dicT _ _, h => by simp [cleanD] at h
  | n + 1, .dicP _ _, h => by simp [cleanD] at h
  | n + 1, .clo _ _ _ _ _ _, h => by simp [cleanD] at h
theorem cleans_ok : ∀ (n : Nat) (ds : List D), cleanDs n ds = true → pureDs ds = true ∧ PyData.canLayAll0 (toPs ds) = true ∧ PyData.depthAll (toPs ds) ≤ n
  | n, [], _ => ⟨rfl, rfl, by simp [toPs, PyData.depthAll]⟩
  | n, d :: ds, h => by
    rw [cleanDs, Bool.and_eq_true] at h
    obtain ⟨a, b, c⟩ := clean_ok n d h.1
    obtain ⟨a', b', c'⟩ := cleans_ok n ds h.2
    refine ⟨by rw [pureDs, a, a']; rfl, by rw [toPs, PyData.canLayAll0, b, b']; rfl, ?_⟩
    rw [toPs, PyData.depthAll]
    omega
end
theorem okD_of {n : Nat} {d : D} (h : cleanD n d = true) (hn : n ≤ 64) : okD d := by
  obtain ⟨a, b, c⟩ := clean_ok n d h
  refine ⟨a, ?_⟩
  unfold SeqAt.shaped
  rw [b]
  simp
  omega
theorem cleanDs_of {n : Nat} : ∀ {ds : List D}, (∀ d ∈ ds, cleanD n d = true) → cleanDs n ds = true
  | [], _ => by rw [cleanDs]
  | d :: ds, h => by rw [cleanDs, h d (by simp), cleanDs_of fun e he => h e (by simp [he])]; rfl
theorem path_clean (p : List Int) (n : Nat) : cleanD (n + 2) (pathD p) = true := by
  unfold pathD
  rw [cleanD]
  exact cleanDs_of fun d hd => by obtain ⟨i, _, rfl⟩ := List.mem_map.mp hd; rw [cleanD]
theorem okD_path (p : List Int) : okD (.tup (p.map .int)) := okD_of (path_clean p 0) (by omega)
theorem eqvAll_ints : ∀ {p r : List Int}, PyData.eqvAll (toPs (p.map .int)) (toPs (r.map .int)) = decide (p = r)
  | [], [] => rfl
  | a :: p, b :: r => by
    rw [List.map_cons, List.map_cons, toPs, toPs, PyData.eqvAll, eqvAll_ints, toP, toP, PyData.eqv]
    by_cases h1 : a = b <;> by_cases h2 : p = r <;> simp [h1, h2]
  | [], _ :: _ => by simp [toPs, PyData.eqvAll]
  | _ :: _, [] => by simp [toPs, PyData.eqvAll]
theorem eqv_path {p r : List Int} : PyData.eqv (toP (.tup (p.map .int))) (toP (.tup (r.map .int))) = decide (p = r) := by
  rw [toP, toP, PyData.eqv, eqvAll_ints]
theorem eqv_nil {ds : List D} : PyData.eqv (toP (.tup ds)) (toP (.tup [])) = ds.isEmpty := by
  cases ds <;> simp [toP, toPs, PyData.eqv, PyData.eqvAll]
theorem eqv_nilL {ds : List D} : PyData.eqv (toP (.lst ds)) (toP (.lst [])) = ds.isEmpty := by
  cases ds <;> simp [toP, toPs, PyData.eqv, PyData.eqvAll]
theorem e0 : ((0 : Nat) : Int) = 0 := rfl
/-! ### kinds, shapes -/
inductive Sh where
  | e | w (a : Str) (c : Sh) | t (a : Str) (l r : Sh)
def Sh.d : Sh → D
  | .e => .tup []
  | .w a c => .tup [.str a, c.d]
  | .t a l r => .tup [.str a, l.d, r.d]
def Sh.size : Sh → Nat
  | .e => 0
  | .w _ c => c.size + 1
  | .t _ l r => l.size + r.size + 1
def Sh.Kd (ways : Int) (labels : List Str) : Sh → Prop
  | .e => True
  | .w a c => ways = 1 ∧ a ∈ labels ∧ c.Kd ways labels
  | .t a l r => ways = 2 ∧ a ∈ labels ∧ l.Kd ways labels ∧ r.Kd ways labels
def Sh.paths : Sh → List Int → List (List Int)
  | .e, _ => []
  | .w _ c, p => p :: c.paths (p ++ [0])
  | .t _ l r, p => p :: (l.paths (p ++ [0]) ++ r.paths (p ++ [1]))
theorem Sh.paths_len : ∀ (s : Sh) (p : List Int), (s.paths p).length = s.size
  | .e, _ => rfl
  | .w _ c, p => by rw [Sh.paths, List.length_cons, c.paths_len, Sh.size]
  | .t _ l r, p => by rw [Sh.paths, List.length_cons, List.length_append, l.paths_len, r.paths_len, Sh.size]
def kindD (ways : Int) (labels : List Str) : D := .tup [.int ways, .tup (labels.map .str)]
def KdL (labels : List Str) : Prop := labels = (["a"] : List Str) ∨ labels = (["a", "b"] : List Str) ∨ labels = (["b", "d", "z"] : List Str)
def KdOk (ways : Int) (labels : List Str) : Prop := (ways = 1 ∨ ways = 2) ∧ labels ≠ [] ∧ labels.length ≤ 3 ∧ (∀ a ∈ labels, PyData.strOk a = true ∧ a.length = 1) ∧ KdL labels
theorem Sh.clean {ways : Int} {labels : List Str} (hk : KdOk ways labels) : ∀ (s : Sh), s.Kd ways labels → ∀ n, s.size ≤ n → cleanD (n + 2) s.d = true
  | .e, _, n, _ => by rw [Sh.d, cleanD, cleanDs]
  | .w a c, h, n, hn => by
    obtain ⟨_, h1, h2⟩ := h
    cases n with
    | zero => simp [Sh.size] at hn
    | succ n =>
      rw [Sh.size] at hn
      rw [Sh.d, cleanD, cleanDs, cleanDs, cleanDs, cleanD, (hk.2.2.2.1 a h1).1, c.clean hk h2 n (by omega)]
      rfl
  | .t a l r, h, n, hn => by
    obtain ⟨_, h1, h2, h3⟩ := h
    cases n with
    | zero => simp [Sh.size] at hn
    | succ n =>
      rw [Sh.size] at hn
      rw [Sh.d, cleanD, cleanDs, cleanDs, cleanDs, cleanDs, cleanD, (hk.2.2.2.1 a h1).1, l.clean hk h2 n (by omega), r.clean hk h3 n (by omega)]
      rfl
theorem kd_lit {ways : Int} (h : ways = 1 ∨ ways = 2) : KdOk ways ["a"] ∧ KdOk ways ["a", "b"] ∧ KdOk ways ["b", "d", "z"] := by
  have h1 : PyData.strOk "a" = true ∧ (Str.ofString "a").length = 1 := by decide +kernel
  have h2 : PyData.strOk "b" = true ∧ (Str.ofString "b").length = 1 := by decide +kernel
  have h3 : PyData.strOk "d" = true ∧ (Str.ofString "d").length = 1 := by decide +kernel
  have h4 : PyData.strOk "z" = true ∧ (Str.ofString "z").length = 1 := by decide +kernel
  exact ⟨⟨h, by simp, by simp, by simpa using h1, .inl rfl⟩, ⟨h, by simp, by simp, by simpa using ⟨h1, h2⟩, .inr (.inl rfl)⟩, ⟨h, by simp, by simp, by simpa using ⟨h2, h3, h4⟩, .inr (.inr rfl)⟩⟩
theorem sc__law_kind : FnScope ["tape", "labels"] ["tape"] (defScope d__law_kind) := ⟨rfl, rfl, rfl, by decide +kernel, rfl, by decide +kernel, by decide +kernel⟩
theorem sc__law_shape : FnScope ["tape", "kind", "count", "label", "left"] ["tape", "kind", "count"] (defScope d__law_shape) := ⟨rfl, rfl, rfl, by decide +kernel, rfl, by decide +kernel, by decide +kernel⟩
theorem sc__law_paths : FnScope ["shape", "path", "found", "way"] ["shape", "path"] (defScope d__law_paths) := ⟨rfl, rfl, rfl, by decide +kernel, rfl, by decide +kernel, by decide +kernel⟩
theorem sc__law_part : FnScope ["shape", "path", "way"] ["shape", "path"] (defScope d__law_part) := ⟨rfl, rfl, rfl, by decide +kernel, rfl, by decide +kernel, by decide +kernel⟩
def GKind : CG := fun ss ω q => ∃ (j : Nat) (c : Cell), ss = [.pin j] ∧ ω[j]? = some c ∧ Tp c ∧ ∀ ways labels c', KdOk ways labels → Tp c' → q (.d (kindD ways labels)) (ω.set j c')
def GShape (N : Nat) : CG := fun ss ω q => ∃ (j : Nat) (c : Cell) (ways : Int) (labels : List Str) (n : Nat), ss = [.pin j, .d (kindD ways labels), .d (.int (n : Nat))] ∧ n < N ∧ n < 1000 ∧ ω[j]? = some c ∧ Tp c ∧ KdOk ways labels ∧ ∀ (s : Sh) c', s.size = n → s.Kd ways labels → Tp c' → q (.d s.d) (ω.set j c')
def CPaths (N : Nat) : CP := fun ds q => ∃ (s : Sh) (p : List Int) (ways : Int) (labels : List Str), ds = [s.d, pathD p] ∧ s.size < N ∧ s.size ≤ 60 ∧ p.length + s.size ≤ 1000 ∧ KdOk ways labels ∧ s.Kd ways labels ∧ q (.lst ((s.paths p).map pathD))
section
variable {P : Program} {w : World} [Tb w] {K : PySem.W.Frag} {mg : Str → Option Value} {base : Heap}
theorem ok_kind {k : Nat} (c__law_take : Cal P w K mg base CX0 k "_law_take" ["tape", "many"] (spG K GTake)) (Dn : Dfn K mg "_law_kind" ["tape"] d__law_kind) : Cal P w K mg base CX0 (k+1) "_law_kind" ["tape"] (spG K GKind) := by
  refine calG Dn sc__law_kind (fun ss ω q h => ?_) fun f cdv A outer s H E ss ω q hr h => ?_
  · obtain ⟨j, c, rfl, _⟩ := h
    rfl
  have hu := hu_of hr
  obtain ⟨j, c, rfl, hj, hc, hq⟩ := h
  have hl := (List.getElem?_eq_some_iff.mp hj).1
  have hs := fun c => @List.getElem?_set_self Cell ω j c hl
  refine ⟨_, _, (ys_cons (y_set (i := 1) sc__law_kind.nd rfl (y_ix hu (y_tup (ya_cons (y_tup (ya_cons y_str ya_nil)) (ya_cons (y_tup (ya_cons y_str (ya_cons y_str ya_nil))) (ya_cons (y_tup (ya_cons y_str (ya_cons y_str ya_nil))) (ya_cons (y_tup (ya_cons y_str (ya_cons y_str (ya_cons y_str ya_nil)))) ya_nil))))) (y_calG c__law_take hr (ya_cons (y_var 0) (ya_cons y_int ya_nil))) (fun _ _ => rfl)))
      (ys_one (y_ret (y_tup (ya_cons (y_add y_int (y_fdiv (y_calG c__law_take hr (ya_cons (y_var 0) (ya_cons y_int ya_nil))) y_int)) (ya_cons (y_var 1) ya_nil)))))), ?_⟩
  norm_cast
  push_cast []
  refine ⟨j, 4, c, rfl, hj, hc, by omega, by omega, fun z c1 hc1 h0 h1 => ?_⟩
  have hz : z = 0 ∨ z = 1 ∨ z = 2 ∨ z = 3 := by omega
  rcases hz with rfl | rfl | rfl | rfl
  all_goals
    push_cast []
    refine ⟨j, 5, c1, rfl, hs c1, hc1, by omega, by omega, fun z c2 hc2 h0 h1 => ?_⟩
    have hz : z = 0 ∨ z = 1 ∨ z = 2 ∨ z = 3 ∨ z = 4 := by omega
    have hd : CDivN z 3 := ⟨by omega, by omega⟩
    have ez : 1 + z.fdiv 3 = 1 ∨ 1 + z.fdiv 3 = 2 := by rcases hz with rfl | rfl | rfl | rfl | rfl <;> decide
    push_cast [List.set_set]
    first
      | exact hq _ ["a"] _ (kd_lit ez).1 hc2
      | exact hq _ ["a", "b"] _ (kd_lit ez).2.1 hc2
      | exact hq _ ["b", "d", "z"] _ (kd_lit ez).2.2 hc2
theorem ok_shape0 {k N : Nat} (bu : Bu mg) (c__law_take : Cal P w K mg base CX0 k "_law_take" ["tape", "many"] (spG K GTake)) (c__law_shape : Cal P w K mg base CX0 k "_law_shape" ["tape", "kind", "count"] (spG K (GShape N))) (Dn : Dfn K mg "_law_shape" ["tape", "kind", "count"] d__law_shape) : Cal P w K mg base CX0 (k+1) "_law_shape" ["tape", "kind", "count"] (spG K (GShape (N + 1))) := by
  refine calG Dn sc__law_shape (fun ss ω q h => ?_) fun f cdv A outer s H E ss ω q hr h => ?_
  · obtain ⟨j, c, ways, labels, n, rfl, _⟩ := h
    rfl
  have hu := hu_of hr
  have hu64 := hr.units
  obtain ⟨j, c, ways, labels, n, rfl, hn, hn2, hj, hc, hk, hq⟩ := h
  have hl := (List.getElem?_eq_some_iff.mp hj).1
  have hs := fun c => @List.getElem?_set_self Cell ω j c hl
  refine ⟨_, _, (ys_cons (y_ifS (yt_cmp (op_eqY hu64) refO_eq (y_var 2) y_int (nomark _)) (ys_one (y_ret (y_tup ya_nil))) ys_nil)
      (ys_cons (y_set (i := 3) sc__law_shape.nd rfl (y_ix hu (y_ix hu (y_var 1) y_int (fun _ _ => rfl)) (y_calG c__law_take hr (ya_cons (y_var 0) (ya_cons (y_len bu (ya_cons (y_ix hu (y_var 1) y_int (fun _ _ => rfl)) ya_nil)) ya_nil))) (fun _ _ => rfl)))
      (ys_cons (y_ifS (yt_cmp (op_eqY hu64) refO_eq (y_ix hu (y_var 1) y_int (fun _ _ => rfl)) y_int (nomark _)) (ys_one (y_ret (y_tup (ya_cons (y_var 3) (ya_cons (y_calG c__law_shape hr (ya_cons (y_var 0) (ya_cons (y_var 1) (ya_cons (y_sub (y_var 2) y_int) ya_nil)))) ya_nil))))) ys_nil)
      (ys_cons (y_set (i := 4) sc__law_shape.nd rfl (y_calG c__law_take hr (ya_cons (y_var 0) (ya_cons (y_var 2) ya_nil))))
      (ys_one (y_ret (y_tup (ya_cons (y_var 3) (ya_cons (y_calG c__law_shape hr (ya_cons (y_var 0) (ya_cons (y_var 1) (ya_cons (y_var 4) ya_nil)))) (ya_cons (y_calG c__law_shape hr (ya_cons (y_var 0) (ya_cons (y_var 1) (ya_cons (y_sub (y_sub (y_var 2) y_int) (y_var 4)) ya_nil)))) ya_nil)))))))))), ?_⟩
  norm_cast
  unfold kindD
  cases n with
  | zero =>
    push_cast []
    rw [set_same hj]
    exact hq .e c rfl trivial hc
  | succ n =>
    obtain ⟨hw, hne, hlen, hlab⟩ := id hk
    have hlen0 : labels.length ≠ 0 := by simpa using hne
    push_cast []
    refine ⟨j, labels.length, c, rfl, hj, hc, by omega, by omega, fun z c1 hc1 h0 h1 => ?_⟩
    obtain ⟨i, rfl⟩ := Int.eq_ofNat_of_zero_le h0
    have hi : i < labels.length := by omega
    have h4 : (labels.map D.str)[i]? = some (.str labels[i]) := by simp [hi]
    push_cast [atI_nat, h4]
    have hin := List.getElem_mem hi
    rcases hw with rfl | rfl
    · push_cast []
      refine ⟨j, c1, 1, labels, n, by rw [kindD, show ((n + 1 : Nat) : Int) - 1 = (n : Nat) by omega], by omega, by omega, hs c1, hc1, hk, fun sh c2 e1 e2 hc2 => ?_⟩
      rw [List.set_set]
      push_cast []
      exact hq (.w labels[i] sh) c2 (by rw [Sh.size, e1]) ⟨rfl, hin, e2⟩ hc2
    · push_cast []
      refine ⟨j, _, c1, rfl, hs c1, hc1, by omega, by omega, fun z c2 hc2 z0 z1 => ?_⟩
      obtain ⟨m, rfl⟩ := Int.eq_ofNat_of_zero_le z0
      rw [List.set_set]
      push_cast []
      refine ⟨j, c2, 2, labels, m, rfl, by omega, by omega, hs c2, hc2, hk, fun sl c3 e1 e2 hc3 => ?_⟩
      rw [List.set_set]
      push_cast []
      refine ⟨j, c3, 2, labels, n - m, by rw [kindD, show ((n + 1 : Nat) : Int) - 1 - (m : Nat) = (n - m : Nat) by omega], by omega, by omega, hs c3, hc3, hk, fun sr c4 e3 e4 hc4 => ?_⟩
      rw [List.set_set]
      push_cast []
      exact hq (.t labels[i] sl sr) c4 (by rw [Sh.size, e1, e3]; omega) ⟨rfl, hin, e2, e4⟩ hc4
theorem ok_shape {k : Nat} (bu : Bu mg) (c__law_take : Cal P w K mg base CX0 k "_law_take" ["tape", "many"] (spG K GTake)) (Dn : Dfn K mg "_law_shape" ["tape", "kind", "count"] d__law_shape) : ∀ N, Cal P w K mg base CX0 (k+N) "_law_shape" ["tape", "kind", "count"] (spG K (GShape N))
  | 0 => cal_noG Dn fun ss ω q ⟨j, c, ways, labels, n, _, h, _⟩ => by omega
  | N + 1 => ok_shape0 bu (c__law_take.mono (Nat.le_add_right k N)) (ok_shape bu c__law_take Dn N) Dn
theorem ok_paths0 {k N : Nat} (bu : Bu mg) (c__law_paths : Cal P w K mg base CX0 k "_law_paths" ["shape", "path"] (spP K (CPaths N))) (Dn : Dfn K mg "_law_paths" ["shape", "path"] d__law_paths) : Cal P w K mg base CX0 (k+1) "_law_paths" ["shape", "path"] (spP K (CPaths (N + 1))) := by
  refine calP Dn sc__law_paths (fun ds q h => ?_) fun f cdv A outer s H E ds q hr h => ?_
  · obtain ⟨s, p, ways, labels, rfl, _⟩ := h
    rfl
  have hu := hu_of hr
  have hu64 := hr.units
  have hpass := @PassesOwn.never
  obtain ⟨s, p, ways, labels, rfl, hn, hn2, hp, hk, hs, hq⟩ := h
  refine ⟨_, _, (ys_cons (y_ifS (yt_cmp (op_eqY hu64) refO_eq (y_var 0) (y_tup ya_nil) (nomark _)) (ys_one (y_ret (y_lstD ya_nil))) ys_nil)
      (ys_cons (y_set (i := 2) sc__law_paths.nd rfl (y_lstD (ya_cons (y_var 1) ya_nil)))
      (ys_cons (y_for hpass rfl (yi_range1 bu.range (ya_cons (y_sub (y_len bu (ya_cons (y_var 0) ya_nil)) y_int) ya_nil)) (yg_name (i := 3) sc__law_paths.nd rfl) (ys_one (y_set (i := 2) sc__law_paths.nd rfl (y_add (y_var 2) (y_cal c__law_paths hr (ya_cons (y_ix hu (y_var 0) (y_add (y_var 3) y_int) (fun _ _ => rfl)) (ya_cons (y_add (y_var 1) (y_tup (ya_cons (y_var 3) ya_nil))) ya_nil)))))))
      (ys_one (y_ret (y_var 2)))))), ?_⟩
  have oks := okD_of (s.clean hk hs 60 hn2) (by omega)
  have ok0 : okD (.tup []) := okD_path []
  unfold pathD
  norm_cast
  cases s with
  | e =>
    unfold Sh.d at oks ⊢
    push_cast [oks, eqv_nil]
    exact hq
  | w a c =>
    obtain ⟨_, h1, h2⟩ := hs
    rw [Sh.size] at hn hn2 hp
    unfold Sh.d at oks ⊢
    have l1 := c.paths_len (p ++ [0])
    push_cast [oks, ok0, eqv_nil]
    refine ⟨c, p ++ [0], _, _, by unfold pathD; rw [List.map_append]; rfl, by omega, by omega, by rw [List.length_append]; simp; omega, hk, h2, ?_⟩
    rw [Sh.paths, List.map_cons] at hq
    push_cast []
    exact hq
  | t a l r =>
    obtain ⟨_, h1, h2, h3⟩ := hs
    rw [Sh.size] at hn hn2 hp
    unfold Sh.d at oks ⊢
    have l1 := l.paths_len (p ++ [0])
    have l2 := r.paths_len (p ++ [1])
    push_cast [oks, ok0, eqv_nil]
    refine ⟨l, p ++ [0], _, _, by unfold pathD; rw [List.map_append]; rfl, by omega, by omega, by rw [List.length_append]; simp; omega, hk, h2, ?_⟩
    rw [Sh.paths, List.map_cons, List.map_append] at hq
    push_cast []
    refine ⟨r, p ++ [1], _, _, by unfold pathD; rw [List.map_append]; rfl, by omega, by omega, by rw [List.length_append]; simp; omega, hk, h3, ?_⟩
    push_cast []
    exact hq
theorem ok_paths {k : Nat} (bu : Bu mg) (Dn : Dfn K mg "_law_paths" ["shape", "path"] d__law_paths) : ∀ N, Cal P w K mg base CX0 (k+N) "_law_paths" ["shape", "path"] (spP K (CPaths N))
  | 0 => cal_noP Dn fun ds q ⟨s, p, ways, labels, _, h, _⟩ => by omega
  | N + 1 => ok_paths0 bu (ok_paths bu Dn N) Dn
/-- the shape at a path -/
def Sh.at_ : Sh → List Int → Option Sh
  | s, [] => some s
  | .w _ c, i :: p => if i = 0 then c.at_ p else none
  | .t _ l r, i :: p => if i = 0 then l.at_ p else if i = 1 then r.at_ p else none
  | .e, _ :: _ => none
def CPart : CP := fun ds q => ∃ (s t : Sh) (p : List Int), ds = [s.d, pathD p] ∧ s.at_ p = some t ∧ q t.d
theorem ok_part {k : Nat} (Dn : Dfn K mg "_law_part" ["shape", "path"] d__law_part) : Cal P w K mg base CX0 (k+1) "_law_part" ["shape", "path"] (spP K CPart) := by
  refine calP Dn sc__law_part (fun ds q h => ?_) fun f cdv A outer s H E ds q hr h => ?_
  · obtain ⟨s, t, p, rfl, _⟩ := h
    rfl
  have hu := hu_of hr
  have hpass := @PassesOwn.never
  obtain ⟨s, t, p, rfl, ht, hq⟩ := h
  refine ⟨_, _, (ys_cons (y_for hpass rfl (yi_seq (y_var 1)) (yg_name (i := 2) sc__law_part.nd rfl) (ys_one (y_set (i := 0) sc__law_part.nd rfl (y_ix hu (y_var 0) (y_add (y_var 2) y_int) (fun _ _ => rfl)))))
      (ys_one (y_ret (y_var 0)))), ?_⟩
  unfold pathD
  norm_cast
  push_cast []
  refine for_ind (fun is ρ ω => ∃ (s : Sh) (r : List Int) (y : Option S), is = (r.map D.int).map S.d ∧ ρ = [some (.d s.d), some (.d (.tup (p.map .int))), y] ∧ s.at_ r = some t) ⟨s, p, none, rfl, rfl, ht⟩ ?_ ?_
  · rintro s0 r0 ρ ω nx ⟨s, r, y, e1, rfl, e2⟩ hnx
    cases r with
    | nil => cases e1
    | cons i r =>
      rw [List.map_cons, List.map_cons] at e1
      obtain ⟨rfl, rfl⟩ := List.cons.inj e1
      cases s with
      | e => simp [Sh.at_] at e2
      | w a c =>
        rw [Sh.at_] at e2
        by_cases hi : i = 0
        · rw [if_pos hi] at e2
          subst hi
          rw [Sh.d]
          push_cast []
          exact hnx _ _ trivial ⟨c, r, _, rfl, rfl, e2⟩
        · rw [if_neg hi] at e2
          cases e2
      | t a u v =>
        rw [Sh.at_] at e2
        by_cases hi : i = 0
        · rw [if_pos hi] at e2
          subst hi
          rw [Sh.d]
          push_cast []
          exact hnx _ _ trivial ⟨u, r, _, rfl, rfl, e2⟩
        · rw [if_neg hi] at e2
          by_cases hi : i = 1
          · rw [if_pos hi] at e2
            subst hi
            rw [Sh.d]
            push_cast []
            exact hnx _ _ trivial ⟨v, r, _, rfl, rfl, e2⟩
          · rw [if_neg hi] at e2
            cases e2
  · rintro ρ ω ⟨s, r, y, e1, rfl, e2⟩
    cases r with
    | cons i r => cases e1
    | nil =>
      rw [Sh.at_] at e2
      cases e2
      push_cast []
      exact hq
end
end Y


set_option Elab.async false
set_option linter.all false
set_option maxRecDepth 100000
set_option maxHeartbeats 2000000
namespace Y
open PySem PySem.Spec PyProof.Rows L2 StX
local macro_rules | `(tactic| push_cast [$xs,*]) => `(tactic| repeat (first | (with_reducible first | refine g_c ?_ | (refine g_v ?_; first | refine g_var0 ?_ | refine g_var1 ?_ | refine g_var2 ?_ | refine g_var3 ?_ | refine g_var4 ?_ | refine g_var5 ?_ | refine g_var6 ?_ | refine g_var7 ?_ | refine g_var8 ?_ | refine g_var9 ?_ | refine g_var10 ?_ | refine g_var11 ?_ | refine g_var12 ?_ | refine g_var13 ?_ | refine g_var14 ?_ | refine g_var15 ?_)) | ((with_reducible refine lf_go fun Q hQ => ?_); simp only [zipD, rslD, setSortD, finJ, slotsD, upg, ix_dicK, ix_dicT, ix_dicP, in_dicK, in_dicT, in_dicP, pkeyOf, seqD, revSeqD, spreadS, truD, slD, tyOk, appD, popD, extD, itemsOf, negD, putD, putC, sizeC, ty_non, ty_bl, ty_int, ty_str, ty_tup, ty_ktup, ty_lst, ty_pin, kitS, intO, addD, subD, mulD, modD, fdivD, shlD, shrD, bandD, borD, eq_ii, eq_ss, eq_bb, eq_tt, eq_ll, eq_tk, ordD, ltD, leD, gtD, geD, in_tup, in_ktup, in_lst, in_str, in_pin, inSq_str, inSq_int, isND, isNon, isBD, ix_tup, ix_ktup, ix_lst, ix_str, ix_pin, lookC, keyOf, keysOf, valS_nil, valS_cons, putS_nil, putS_cons, mergeS, kgetD, kixD, revD, wipeD, allD, len_tup, len_ktup, len_lst, len_str, len_pin, intD, absD, sumD, boolsD, tupD, listD, listP, dictC, lstOf, sqOf, frzC, allB, allI, allDk, ofString_inj, atI_0, atI_1, atI_2, atI_3, atI_1m1, atI_2m1, atI_2m2, atI_3m1, atI_3m2, atI_4m1, atI_4m2, cut_1, cut_2, cut_to1, cut_to2, cut_none, allD_map, List.map_cons, List.map_nil, List.length_cons, List.length_nil, List.length_append, List.length_map, List.length_set, List.replicate, List.nil_append, List.cons_append, List.append_nil, List.append_assoc, List.getElem?_cons_zero, List.getElem?_cons_succ, List.getElem?_nil, List.set_cons_zero, List.set_cons_succ, List.find?_cons, List.find?_nil, List.any_cons, List.any_nil, List.foldl_cons, List.foldl_nil, List.isEmpty_cons, List.isEmpty_nil, List.dropLast_concat, get_new, get_new1, get_new2, get_new3, set_new, set_new1, set_new2, set_new3, Option.map_some, Option.map_none, Option.isSome_some, Option.isSome_none, Option.some.injEq, Sum.inr.injEq, Sum.inl.injEq, reduceCtorEq, if_true, if_false, ite_true, ite_false, Bool.false_eq_true, Bool.not_true, Bool.not_false, Bool.false_xor, Bool.true_xor, Bool.xor_false, Bool.xor_true, decide_true, decide_false, decide_eq_true_eq, true_and, and_true, false_and, and_false, Bool.or_true, Bool.or_false, Bool.true_or, Bool.false_or, Bool.and_true, Bool.and_false, Bool.true_and, Bool.false_and, not_true_eq_false, not_false_eq_true, Nat.reduceAdd, Nat.reduceSub, Nat.reduceLeDiff, Nat.reduceLT, Nat.reduceEqDiff, Nat.reduceMul, Int.reduceLE, Int.reduceLT, Int.reduceEq, Int.reduceAdd, Int.reduceSub, Int.reduceNeg, Int.reduceMul, Int.reduceToNat, String.reduceEq, String.reduceBEq, reduceIte, Int.cast_ofNat_Int, Nat.zero_add, rng_0, rng_1, rng_2, rng_3, Nat.add_one_sub_one, List.reverse_nil, strsOf_nil, strsOf_cons, strsOf_map, intsOf_nil, intsOf_cons, intsOf_map, List.mem_cons, List.not_mem_nil, or_false, false_or, or_true, true_or, allB_map, allI_map, allB_mapf, allI_mapf, get_newm, allD_app, allD_mapf, isEmpty_snoc, $xs,*]; subst hQ; try dsimp only) | (with_reducible first | refine g_op ?_ | refine g_cons ?_ | refine g_nil ?_ | refine g_test ?_ | refine g_asB ?_ | refine g_true ?_ | refine g_false ?_ | refine g_dec ?_ | refine g_seq ?_ | refine g_un ?_ | refine g_b ?_ | refine g_nt ?_ | refine g_ifS ?_ | refine g_ret ?_ | refine g_next ?_ | (refine g_st ?_; first | refine g_set0 ?_ | refine g_set1 ?_ | refine g_set2 ?_ | refine g_set3 ?_ | refine g_set4 ?_ | refine g_set5 ?_ | refine g_set6 ?_ | refine g_set7 ?_ | refine g_set8 ?_ | refine g_set9 ?_ | refine g_set10 ?_ | refine g_set11 ?_ | refine g_set12 ?_ | refine g_set13 ?_ | refine g_set14 ?_ | refine g_set15 ?_) | (refine g_gn ?_; first | refine g_gn0 ?_ | refine g_gn1 ?_ | refine g_gn2 ?_ | refine g_gn3 ?_ | refine g_gn4 ?_ | refine g_gn5 ?_ | refine g_gn6 ?_ | refine g_gn7 ?_ | refine g_gn8 ?_ | refine g_gn9 ?_ | refine g_gn10 ?_ | refine g_gn11 ?_ | refine g_gn12 ?_ | refine g_gn13 ?_ | refine g_gn14 ?_ | refine g_gn15 ?_) | refine g_lf1 ?_ | refine g_lf2 ?_ | refine g_notTv ?_ | refine g_andT ?_ | refine g_orT ?_ | refine g_notT ?_ | refine g_mt ?_ | refine g_mt0 ?_ | refine g_drop ?_ | refine g_tup ?_ | refine g_lstD ?_ | refine g_lst ?_ | refine g_if ?_ | refine g_call ?_ | refine g_callG ?_ | refine g_callX ?_ | refine g_callGX ?_ | refine g_tru ?_ | refine g_andV ?_ | refine g_orV ?_ | refine g_notV ?_ | refine g_sl ?_ | refine g_noPart ?_ | refine g_part ?_ | refine g_partI ?_ | refine g_chain ?_ | refine g_putS ?_ | refine g_isi ?_ | refine g_star ?_ | refine g_for ?_ | refine g_lc ?_ | refine g_seqI ?_ | refine g_revI ?_ | refine g_rng1 ?_ | refine g_rng2 ?_ | refine g_gNil ?_ | refine g_gCons ?_ | refine g_gTup2 ?_ | refine g_gTup3 ?_ | refine g_gTup4 ?_ | refine g_yes ?_ | refine g_retN ?_ | refine g_break ?_ | refine g_cont ?_ | refine g_finD ?_ | refine g_finD2 ?_ | refine g_finP ?_ | refine g_lcB ?_ | refine g_lcNil ?_ | refine g_lcCons ?_ | refine g_forNil ?_ | refine g_forCons ?_ | refine g_rtP ?_ | refine g_rtPin ?_ | refine g_disp ?_ | refine g_pairs0 ?_ | refine g_pairsS ?_ | refine g_pairsI ?_ | refine g_newK ?_ | refine g_newT ?_ | refine g_newP ?_ | refine g_zipI ?_ | refine g_revrng ?_ | refine g_lcN ?_ | refine g_mid ?_ | refine g_elt ?_ | refine g_lcTNil ?_ | refine g_lcTCons ?_ | refine g_dc ?_ | refine g_dcNil ?_ | refine g_dcCons ?_ | refine g_lam ?_ | refine g_callB ?_ | refine g_loc rfl ?_ | refine g_locC rfl ?_) | ((with_reducible refine g_pos ?_ ?_); · first | assumption | rfl | omega) | ((with_reducible refine g_neg ?_ ?_); · first | assumption | omega | decide) | ((with_reducible refine And.intro ?_ ?_); · first | trivial | assumption | omega | exact Or.inr (by decide) | (dsimp only; omega) | (simp; done))))
local macro_rules | `(tactic| norm_cast) => `(tactic| ((first | with_reducible refine g_endsG ?_ | with_reducible refine g_endsP ?_); simp only [start_eq, List.map_cons, List.map_nil, List.replicate, List.length_cons, List.length_nil, Nat.reduceAdd, Nat.reduceSub, Nat.zero_add, List.cons_append, List.nil_append]))
theorem cut_e {α : Type} : cutL ([] : List α) (some 1) none = [] := by
  rw [show (1 : Int) = ((1 : Nat) : Int) from rfl, cut_from]
  rfl
/-! ### shapes whose labels are any data -/
inductive Mt where
  | e | w (a : D) (c : Mt) | t (a : D) (l r : Mt)
def Mt.d : Mt → D
  | .e => .tup []
  | .w a c => .tup [a, c.d]
  | .t a l r => .tup [a, l.d, r.d]
def Mt.ins : Mt → List Mt
  | .e => []
  | .w _ c => [c]
  | .t _ l r => [l, r]
def Mt.size : Mt → Nat
  | .e => 0
  | .w _ c => c.size + 1
  | .t _ l r => l.size + r.size + 1
def Mt.pre : Mt → List Mt
  | .e => [.e]
  | .w a c => .w a c :: c.pre
  | .t a l r => .t a l r :: (l.pre ++ r.pre)
theorem Mt.pre_eq (t : Mt) : t.pre = t :: (t.ins.map Mt.pre).flatten := by
  cases t <;> simp [Mt.pre, Mt.ins]
def Mt.lab : Mt → Option D
  | .e => none
  | .w a _ => some a
  | .t a _ _ => some a
def Mt.labs : Mt → List D
  | .e => []
  | .w a c => a :: c.labs
  | .t a l r => a :: (l.labs ++ r.labs)
theorem Mt.labs_eq : ∀ t : Mt, t.pre.filterMap Mt.lab = t.labs
  | .e => rfl
  | .w a c => by rw [Mt.pre, List.filterMap_cons, c.labs_eq]; rfl
  | .t a l r => by rw [Mt.pre, List.filterMap_cons, List.filterMap_append, l.labs_eq, r.labs_eq]; rfl
theorem Mt.pre_len : ∀ t : Mt, t.pre.length ≤ 2 * t.size + 1
  | .e => by simp [Mt.pre]
  | .w a c => by have := c.pre_len; simp only [Mt.pre, Mt.size, List.length_cons]; omega
  | .t a l r => by have h1 := l.pre_len; have h2 := r.pre_len; simp only [Mt.pre, Mt.size, List.length_cons, List.length_append]; omega
theorem Mt.labs_len : ∀ t : Mt, t.labs.length = t.size
  | .e => rfl
  | .w a c => by rw [Mt.labs, List.length_cons, c.labs_len, Mt.size]
  | .t a l r => by rw [Mt.labs, List.length_cons, List.length_append, l.labs_len, r.labs_len, Mt.size]
def Sh.m : Sh → Mt
  | .e => .e
  | .w a c => .w (.str a) c.m
  | .t a l r => .t (.str a) l.m r.m
theorem Sh.m_d : ∀ s : Sh, s.m.d = s.d
  | .e => rfl
  | .w a c => by rw [Sh.m, Mt.d, c.m_d, Sh.d]
  | .t a l r => by rw [Sh.m, Mt.d, l.m_d, r.m_d, Sh.d]
theorem Sh.m_size : ∀ s : Sh, s.m.size = s.size
  | .e => rfl
  | .w a c => by rw [Sh.m, Mt.size, c.m_size, Sh.size]
  | .t a l r => by rw [Sh.m, Mt.size, l.m_size, r.m_size, Sh.size]
theorem Mt.lens (l : List Mt) : l.length ≤ ((l.map Mt.pre).flatten).length := by
  induction l with
  | nil => simp
  | cons a l ih =>
    rw [List.map_cons, List.flatten_cons, List.length_append, List.length_cons, a.pre_eq, List.length_cons]
    omega
theorem sc__parts : FnScope ["shape", "waiting", "found", "now"] ["shape"] (defScope d__parts) := ⟨rfl, rfl, rfl, by decide +kernel, rfl, by decide +kernel, by decide +kernel⟩
theorem sc_labels_of : FnScope ["shape", "now"] ["shape"] (defScope d_labels_of) := ⟨rfl, rfl, rfl, by decide +kernel, rfl, by decide +kernel, by decide +kernel⟩
theorem sc_entry : FnScope ["row", "states", "found", "state"] ["row", "states"] (defScope d_entry) := ⟨rfl, rfl, rfl, by decide +kernel, rfl, by decide +kernel, by decide +kernel⟩
def CParts : CP := fun ds q => ∃ t : Mt, ds = [t.d] ∧ t.size ≤ 10000 ∧ q (.lst (t.pre.map Mt.d))
def CLabels : CP := fun ds q => ∃ t : Mt, ds = [t.d] ∧ t.size ≤ 10000 ∧ q (.lst t.labs)
/-- what stands in a row at some states -/
def rowAt : D → List Int → Option D
  | d, [] => some d
  | .tup ds, i :: r => match atI ds i with
    | some e => rowAt e r
    | none => none
  | _, _ :: _ => none
def CEntry : CP := fun ds q => ∃ (row : D) (sts : List Int) (z : D), ds = [row, .lst (sts.map .int)] ∧ rowAt row sts = some z ∧ q z
section
variable {P : Program} {w : World} [Tb w] {K : PySem.W.Frag} {mg : Str → Option Value} {base : Heap}
theorem ok_parts {k : Nat} (bu : Bu mg) (Dn : Dfn K mg "_parts" ["shape"] d__parts) : Cal P w K mg base CX0 (k+1) "_parts" ["shape"] (spP K CParts) := by
  refine calP Dn sc__parts (fun ds q h => ?_) fun f cdv A outer s H E ds q hr h => ?_
  · obtain ⟨t, rfl, _⟩ := h
    rfl
  have hu := hu_of hr
  have hpass := @PassesOwn.never
  obtain ⟨t, rfl, hsz, hq⟩ := h
  have hn := t.pre_len
  refine ⟨_, _, (ys_cons (y_set (i := 1) sc__parts.nd rfl (y_lst (ya_cons (y_var 0) ya_nil)))
      (ys_cons (y_set (i := 2) sc__parts.nd rfl (y_lst ya_nil))
      (ys_cons (y_while hpass (yt_tru (y_var 1)) (ys_cons (y_set (i := 3) sc__parts.nd rfl (y_pop (y_var 1)))
        (ys_cons (y_expr (y_append (y_var 2) (ya_cons (y_var 3) ya_nil)))
        (ys_one (y_expr (y_extend (y_var 1) (ya_cons (y_listRev bu rfl (y_slice (y_var 3) (yo_some y_int) yo_none)) ya_nil)))))))
      (ys_one (y_ret (y_var 2)))))), ?_⟩
  norm_cast
  push_cast []
  refine while_ind (n := t.pre.length) (fun n ρ ω => ∃ (stk done : List Mt) (y : Option S), ρ = [some (.d t.d), some (.pin 0), some (.pin 1), y] ∧ ω = [.lst (stk.reverse.map fun s => .d s.d), .lst (done.map fun s => .d s.d)] ∧ done ++ (stk.map Mt.pre).flatten = t.pre ∧ n = (stk.map Mt.pre).flatten.length) ⟨[t], [], none, rfl, rfl, by simp, by simp⟩ ?_
  rintro n ρ ω nx ⟨stk, done, y, rfl, rfl, e1, e2⟩ hnx
  have hl := congrArg List.length e1
  rw [List.length_append] at hl
  cases stk with
  | nil =>
    push_cast []
    rw [List.map_nil, List.flatten_nil, List.append_nil] at e1
    rw [e1]
    exact hq
  | cons s rest =>
    have hs : s.pre.length = 1 + ((s.ins.map Mt.pre).flatten).length := by rw [s.pre_eq]; simp; omega
    have h1 := Mt.lens rest
    have h2 := Mt.lens s.ins
    rw [List.map_cons, List.flatten_cons, List.length_append] at hl
    rw [List.reverse_cons, List.map_append]
    have go : ∀ (vs : List D), vs = s.ins.map Mt.d → nx [some (.d t.d), some (.pin 0), some (.pin 1), some (.d s.d)] [.lst (rest.reverse.map (fun s => S.d s.d) ++ (vs.reverse.map S.d)), .lst (done.map (fun s => S.d s.d) ++ [.d s.d])] := by
      rintro vs rfl
      refine hnx ((s.ins ++ rest).map Mt.pre).flatten.length _ _ ?_ ⟨s.ins ++ rest, done ++ [s], _, rfl, ?_, ?_, rfl⟩
      · rw [e2, List.map_cons, List.flatten_cons, List.map_append, List.flatten_append, List.length_append, List.length_append, hs]
        omega
      · rw [List.reverse_append, List.map_append, List.map_append]
        simp
      · rw [List.map_append, List.flatten_append, List.append_assoc]
        rw [← e1, List.map_cons, List.flatten_cons, s.pre_eq]
        simp
    cases s with
    | e =>
      simp only [Mt.d] at go ⊢
      push_cast [cut_e, Mt.d]
      have := go [] rfl
      have hrl : rest.length ≤ 999998 := by omega
      refine ⟨by simp; omega, ?_⟩
      simpa using this
    | w a c =>
      simp only [Mt.d] at go ⊢
      push_cast [Mt.d]
      have := go [c.d] rfl
      have hrl : rest.length ≤ 999998 := by omega
      refine ⟨by simp; omega, ?_⟩
      simpa using this
    | t a l r =>
      simp only [Mt.d] at go ⊢
      push_cast [Mt.d]
      have := go [l.d, r.d] rfl
      have hrl : rest.length ≤ 999998 := by omega
      refine ⟨by simp; omega, ?_⟩
      simpa using this
theorem ok_labels {k : Nat} (c__parts : Cal P w K mg base CX0 k "_parts" ["shape"] (spP K CParts)) (Dn : Dfn K mg "labels_of" ["shape"] d_labels_of) : Cal P w K mg base CX0 (k+1) "labels_of" ["shape"] (spP K CLabels) := by
  refine calP Dn sc_labels_of (fun ds q h => ?_) fun f cdv A outer s H E ds q hr h => ?_
  · obtain ⟨t, rfl, _⟩ := h
    rfl
  have hu := hu_of hr
  obtain ⟨t, rfl, hsz, hq⟩ := h
  have hn := t.pre_len
  refine ⟨_, _, (ys_one (y_ret (y_lcD (own := [("now", 1)]) rfl sc_labels_of.nd (yi_seq (y_cal c__parts hr (ya_cons (y_var 0) ya_nil))) (blkOk_by (own := [("now", 1)]) (N := ["shape", "now"]) (sc := defScope d_labels_of) (by decide +kernel)) go_name (fun _ _ _ _ _ => (yg_name (i := 1) sc_labels_of.nd rfl)) (fun _ _ _ _ _ => (yts_one (yt_tru (y_var 1)))) (fun _ _ _ _ _ => (y_ix hu (y_var 1) y_int (fun _ _ => rfl)))))), ?_⟩
  norm_cast
  push_cast []
  refine ⟨t, rfl, hsz, ?_⟩
  push_cast []
  refine lc_filG (ts := t.pre) Mt.d Mt.lab (by omega) (fun s hs acc k hl hk => ?_) ?_
  · cases s with
    | e => rw [Mt.d]; push_cast []; exact hk
    | w a c => rw [Mt.d]; push_cast []; exact hk
    | t a l r => rw [Mt.d]; push_cast []; exact hk
  · rw [t.labs_eq]
    push_cast []
    exact hq
theorem ok_entry {k : Nat} (Dn : Dfn K mg "entry" ["row", "states"] d_entry) : Cal P w K mg base CX0 (k+1) "entry" ["row", "states"] (spP K CEntry) := by
  refine calP Dn sc_entry (fun ds q h => ?_) fun f cdv A outer s H E ds q hr h => ?_
  · obtain ⟨row, sts, z, rfl, _⟩ := h
    rfl
  have hu := hu_of hr
  have hpass := @PassesOwn.never
  obtain ⟨row, sts, z, rfl, hz, hq⟩ := h
  refine ⟨_, _, (ys_cons (y_set (i := 2) sc_entry.nd rfl (y_var 0))
      (ys_cons (y_for hpass rfl (yi_seq (y_var 1)) (yg_name (i := 3) sc_entry.nd rfl) (ys_one (y_set (i := 2) sc_entry.nd rfl (y_ix hu (y_var 2) (y_var 3) (fun _ _ => rfl)))))
      (ys_one (y_ret (y_var 2))))), ?_⟩
  norm_cast
  push_cast []
  refine for_ind (fun is ρ ω => ∃ (now : D) (r : List Int) (y : Option S), ρ = [some (.d row), some (.d (.lst (sts.map .int))), some (.d now), y] ∧ ω = [] ∧ is = (r.map D.int).map S.d ∧ rowAt now r = some z) ⟨row, sts, none, rfl, rfl, rfl, hz⟩ (fun s r ρ ω nx h hn => ?_) (fun ρ ω h => ?_)
  · obtain ⟨now, l, y, rfl, rfl, e, hw⟩ := h
    cases l with
    | nil => simp at e
    | cons i l =>
      rw [List.map_cons, List.map_cons] at e
      obtain ⟨rfl, rfl⟩ := List.cons.inj e
      cases now with
      | tup ds =>
        rw [rowAt] at hw
        cases ea : atI ds i with
        | none => rw [ea] at hw; cases hw
        | some d =>
          rw [ea] at hw
          push_cast [ea]
          exact hn _ _ trivial ⟨d, l, _, rfl, rfl, rfl, hw⟩
      | _ => simp [rowAt] at hw
  · obtain ⟨now, r, y, rfl, rfl, e, hw⟩ := h
    cases r with
    | nil =>
      cases hw
      push_cast []
      exact hq
    | cons i r => simp at e
end
end Y


set_option Elab.async false
set_option linter.all false
set_option maxRecDepth 100000
set_option maxHeartbeats 2000000
namespace Y
open PySem PySem.Spec PyProof.Rows L2 StX
variable {w : World} [Tb w]
section
variable {K : PySem.W.Frag} {X : Cx} {E : XK}
variable {Φ : Phi} {B : Hp} {α : List Addr} {H : Hp} {σ : L2.St} {ρ : Env} {ω : Sto} {T : List (V × S)}
/-! ### a local object that changes no more -/
def FrzAt (i : Nat) (ρ : Env) (ω : Sto) (k : Env → Sto → Prop) : Prop := match ρ[i]? with
  | some (some (.pin j)) => match ω[j]? with
    | some c => match frzC c with
      | some d => k (ρ.set i (some (.d d))) (ω.set j .dead)
      | none => False
    | none => False
  | _ => False
def dFrz (i : Nat) (t : TSD) : TSD := fun ed ρ ω => FrzAt i ρ ω (t ed)
theorem ys_frz (i : Nat) {sts : List Stmt} {te : TS} {t : TSD} (h : PSsD X K E sts te t) : PSsD X K E sts te (dFrz i t) := ⟨h.p, fun Φ H σ ρ ω T En ed s l hh => by
  unfold dFrz FrzAt at hh
  split at hh
  · rename_i j e1
    split at hh
    · rename_i c e2
      split at hh
      · rename_i d e3
        obtain ⟨B, α, sb⟩ := s
        obtain ⟨v, ev, rv⟩ := sb.sl.2 i _ e1
        obtain ⟨a, ha, rfl⟩ := rv
        obtain ⟨B2, f2, w2, r2⟩ := Frame.frz sb.fr.bh sb.wd ha e2 e3
        have sb2 := sb.step f2 w2
        refine h.r Φ H σ _ _ T En ed ⟨B2, α, sb2.fr, sb2.wd, ⟨by rw [List.length_set]; exact sb2.sl.1, fun k s e => ?_⟩, sb2.tm⟩ l hh
        by_cases hk : i = k
        · subst hk
          rw [List.getElem?_set_self (List.getElem?_eq_some_iff.mp e1).1] at e
          cases e
          exact ⟨_, ev, r2⟩
        · rw [List.getElem?_set_ne hk] at e
          exact sb2.sl.2 k s e
      · exact hh.elim
    · exact hh.elim
  · exact hh.elim⟩
theorem g_frz {i : Nat} {t : TSD} {ed : EndsD} (h : Lf (FrzAt i ρ ω) (t ed)) : dFrz i t ed ρ ω := h
/-! ### sorted(texts) -/
def sortSD : CB := fun ss ω q => match ss with
  | [s] => lstOf s ω fun ds => ∃ xs : List Str, ds = xs.map D.str ∧ xs.length < 64 ∧ ∀ ys : List Str, ys.Perm xs → sortedS ys = true → q (.d (.lst (ys.map D.str))) ω
  | _ => False
theorem refC_sortS : RefC K (rSortedS K) sortSD := fun Φ B α H σ ρ ω T vs ss q Q sb rr m k h => by
  unfold sortSD at h
  split at h
  · obtain ⟨v, rfl, r⟩ := pair1 rr
    obtain ⟨a, xs, ds, rfl, ex, rs, ns, rfl, h64, h⟩ := lst_of sb r h
    rw [rs_strs rs] at ex
    exact ⟨a, ns, rfl, SqL.of ex, h64, fun ys p pm sd hp => k _ _ _ _ (h ys pm sd) (sb.lstD hp rs_strs')⟩
  · exact h.elim
theorem y_sortedS {p pos : Pos} {e : Expr} {u : TAD} (b : Bu X.mg) (ha : PAD X K E [e] ht u) (hg : Gl X "sorted" := by rfl) (he : starEach [e] X.env = (false, eval e X.env) :: starEach [] X.env := by rfl) (hK : X.K = K := by rfl) : PD X K E (.Call (.Name "sorted" p) [e] [] pos) (tCB (rSortedS K) ht) (dB sortSD u) := by
  subst hK
  exact y_blt cr_sortedS refC_sortS b.sorted (by decide +kernel) ha hg (he := he) (hpl := rfl)
end
end Y

set_option Elab.async false
set_option linter.all false
set_option maxRecDepth 100000
set_option maxHeartbeats 2000000
namespace Y
open PySem PySem.Spec PyProof.Rows L2 StX
local macro_rules | `(tactic| push_cast [$xs,*]) => `(tactic| repeat (first | (with_reducible first | refine g_c ?_ | (refine g_v ?_; first | refine g_var0 ?_ | refine g_var1 ?_ | refine g_var2 ?_ | refine g_var3 ?_ | refine g_var4 ?_ | refine g_var5 ?_ | refine g_var6 ?_ | refine g_var7 ?_ | refine g_var8 ?_ | refine g_var9 ?_ | refine g_var10 ?_ | refine g_var11 ?_ | refine g_var12 ?_ | refine g_var13 ?_ | refine g_var14 ?_ | refine g_var15 ?_)) | ((with_reducible refine lf_go fun Q hQ => ?_); simp only [FrzAt, sortSD, zipD, rslD, setSortD, finJ, slotsD, upg, ix_dicK, ix_dicT, ix_dicP, in_dicK, in_dicT, in_dicP, pkeyOf, seqD, revSeqD, spreadS, truD, slD, tyOk, appD, popD, extD, itemsOf, negD, putD, putC, sizeC, ty_non, ty_bl, ty_int, ty_str, ty_tup, ty_ktup, ty_lst, ty_pin, kitS, intO, addD, subD, mulD, modD, fdivD, shlD, shrD, bandD, borD, eq_ii, eq_ss, eq_bb, eq_tt, eq_ll, eq_tk, ordD, ltD, leD, gtD, geD, in_tup, in_ktup, in_lst, in_str, in_pin, inSq_str, inSq_int, isND, isNon, isBD, ix_tup, ix_ktup, ix_lst, ix_str, ix_pin, lookC, keyOf, keysOf, valS_nil, valS_cons, putS_nil, putS_cons, mergeS, kgetD, kixD, revD, wipeD, allD, len_tup, len_ktup, len_lst, len_str, len_pin, intD, absD, sumD, boolsD, tupD, listD, listP, dictC, lstOf, sqOf, frzC, allB, allI, allDk, ofString_inj, atI_0, atI_1, atI_2, atI_3, atI_1m1, atI_2m1, atI_2m2, atI_3m1, atI_3m2, atI_4m1, atI_4m2, cut_1, cut_2, cut_to1, cut_to2, cut_none, allD_map, List.map_cons, List.map_nil, List.length_cons, List.length_nil, List.length_append, List.length_map, List.length_set, List.replicate, List.nil_append, List.cons_append, List.append_nil, List.append_assoc, List.getElem?_cons_zero, List.getElem?_cons_succ, List.getElem?_nil, List.set_cons_zero, List.set_cons_succ, List.find?_cons, List.find?_nil, List.any_cons, List.any_nil, List.foldl_cons, List.foldl_nil, List.isEmpty_cons, List.isEmpty_nil, List.dropLast_concat, get_new, get_new1, get_new2, get_new3, set_new, set_new1, set_new2, set_new3, Option.map_some, Option.map_none, Option.isSome_some, Option.isSome_none, Option.some.injEq, Sum.inr.injEq, Sum.inl.injEq, reduceCtorEq, if_true, if_false, ite_true, ite_false, Bool.false_eq_true, Bool.not_true, Bool.not_false, Bool.false_xor, Bool.true_xor, Bool.xor_false, Bool.xor_true, decide_true, decide_false, decide_eq_true_eq, true_and, and_true, false_and, and_false, Bool.or_true, Bool.or_false, Bool.true_or, Bool.false_or, Bool.and_true, Bool.and_false, Bool.true_and, Bool.false_and, not_true_eq_false, not_false_eq_true, Nat.reduceAdd, Nat.reduceSub, Nat.reduceLeDiff, Nat.reduceLT, Nat.reduceEqDiff, Nat.reduceMul, Int.reduceLE, Int.reduceLT, Int.reduceEq, Int.reduceAdd, Int.reduceSub, Int.reduceNeg, Int.reduceMul, Int.reduceToNat, String.reduceEq, String.reduceBEq, reduceIte, Int.cast_ofNat_Int, Nat.zero_add, rng_0, rng_1, rng_2, rng_3, Nat.add_one_sub_one, List.reverse_nil, strsOf_nil, strsOf_cons, strsOf_map, intsOf_nil, intsOf_cons, intsOf_map, List.mem_cons, List.not_mem_nil, or_false, false_or, or_true, true_or, allB_map, allI_map, allB_mapf, allI_mapf, get_newm, allD_app, allD_mapf, isEmpty_snoc, $xs,*]; subst hQ; try dsimp only) | (with_reducible first | refine g_op ?_ | refine g_cons ?_ | refine g_nil ?_ | refine g_test ?_ | refine g_asB ?_ | refine g_true ?_ | refine g_false ?_ | refine g_dec ?_ | refine g_seq ?_ | refine g_un ?_ | refine g_b ?_ | refine g_nt ?_ | refine g_ifS ?_ | refine g_ret ?_ | refine g_next ?_ | (refine g_st ?_; first | refine g_set0 ?_ | refine g_set1 ?_ | refine g_set2 ?_ | refine g_set3 ?_ | refine g_set4 ?_ | refine g_set5 ?_ | refine g_set6 ?_ | refine g_set7 ?_ | refine g_set8 ?_ | refine g_set9 ?_ | refine g_set10 ?_ | refine g_set11 ?_ | refine g_set12 ?_ | refine g_set13 ?_ | refine g_set14 ?_ | refine g_set15 ?_) | (refine g_gn ?_; first | refine g_gn0 ?_ | refine g_gn1 ?_ | refine g_gn2 ?_ | refine g_gn3 ?_ | refine g_gn4 ?_ | refine g_gn5 ?_ | refine g_gn6 ?_ | refine g_gn7 ?_ | refine g_gn8 ?_ | refine g_gn9 ?_ | refine g_gn10 ?_ | refine g_gn11 ?_ | refine g_gn12 ?_ | refine g_gn13 ?_ | refine g_gn14 ?_ | refine g_gn15 ?_) | refine g_lf1 ?_ | refine g_lf2 ?_ | refine g_notTv ?_ | refine g_andT ?_ | refine g_orT ?_ | refine g_notT ?_ | refine g_mt ?_ | refine g_mt0 ?_ | refine g_drop ?_ | refine g_tup ?_ | refine g_lstD ?_ | refine g_lst ?_ | refine g_if ?_ | refine g_call ?_ | refine g_callG ?_ | refine g_callX ?_ | refine g_callGX ?_ | refine g_tru ?_ | refine g_andV ?_ | refine g_orV ?_ | refine g_notV ?_ | refine g_sl ?_ | refine g_noPart ?_ | refine g_part ?_ | refine g_partI ?_ | refine g_chain ?_ | refine g_putS ?_ | refine g_isi ?_ | refine g_star ?_ | refine g_for ?_ | refine g_lc ?_ | refine g_seqI ?_ | refine g_revI ?_ | refine g_rng1 ?_ | refine g_rng2 ?_ | refine g_gNil ?_ | refine g_gCons ?_ | refine g_gTup2 ?_ | refine g_gTup3 ?_ | refine g_gTup4 ?_ | refine g_yes ?_ | refine g_retN ?_ | refine g_break ?_ | refine g_cont ?_ | refine g_finD ?_ | refine g_finD2 ?_ | refine g_finP ?_ | refine g_lcB ?_ | refine g_lcNil ?_ | refine g_lcCons ?_ | refine g_forNil ?_ | refine g_forCons ?_ | refine g_rtP ?_ | refine g_rtPin ?_ | refine g_disp ?_ | refine g_pairs0 ?_ | refine g_pairsS ?_ | refine g_pairsI ?_ | refine g_newK ?_ | refine g_newT ?_ | refine g_newP ?_ | refine g_zipI ?_ | refine g_revrng ?_ | refine g_lcN ?_ | refine g_mid ?_ | refine g_elt ?_ | refine g_lcTNil ?_ | refine g_lcTCons ?_ | refine g_dc ?_ | refine g_dcNil ?_ | refine g_dcCons ?_ | refine g_lam ?_ | refine g_callB ?_ | refine g_frz ?_ | refine g_loc rfl ?_ | refine g_locC rfl ?_) | ((with_reducible refine g_pos ?_ ?_); · first | assumption | rfl | omega) | ((with_reducible refine g_neg ?_ ?_); · first | assumption | omega | decide) | ((with_reducible refine And.intro ?_ ?_); · first | trivial | assumption | omega | exact Or.inr (by decide) | (dsimp only; omega) | (simp; done))))
local macro_rules | `(tactic| norm_cast) => `(tactic| ((first | with_reducible refine g_endsG ?_ | with_reducible refine g_endsP ?_); simp only [start_eq, List.map_cons, List.map_nil, List.replicate, List.length_cons, List.length_nil, Nat.reduceAdd, Nat.reduceSub, Nat.zero_add, List.cons_append, List.nil_append]))
/-! ### a loop over all parts from the last one on -/
def Mt.kids {β : Type} (F : Mt → β → β) : Mt → β → β
  | .e, b => b
  | .w _ c, b => F c b
  | .t _ l r, b => F l (F r b)
def Mt.Has {β : Type} (F : Mt → β → β) (Pre : Mt → β → Prop) : Prop := (∀ a c b, Pre (.w a c) b → Pre c b) ∧ ∀ a l r b, Pre (.t a l r) b → Pre r b ∧ Pre l (F r b)
theorem for_tree {β : Type} {gd : TGD} {ts : TSD} {nx bk ct : Env → Sto → Prop} {rt : S → Sto → Prop} {x : XD} {P : Sto → Prop} (F : Mt → β → β) (Pre : Mt → β → Prop) (J : β → Env → Sto → Prop) (hp : Mt.Has F Pre)
    (step : ∀ (t : Mt) (b : β) (ρ : Env) (ω : Sto) (nx' : Env → Sto → Prop), Pre t b → J (Mt.kids F t b) ρ ω → (∀ ρ' ω', P ω' → J (F t b) ρ' ω' → nx' ρ' ω') → gd (.d t.d) ρ ω (fun ρ1 ω1 => ts ⟨nx', rt, nx, nx', x⟩ ρ1 ω1)) :
    ∀ (t : Mt) (b : β) (r : List S) (ρ : Env) (ω : Sto), Pre t b → J b ρ ω → (∀ ρ' ω', P ω' → J (F t b) ρ' ω' → forR gd ts ⟨nx, rt, bk, ct, x⟩ P r ρ' ω') → forR gd ts ⟨nx, rt, bk, ct, x⟩ P ((t.pre.map fun s => S.d s.d).reverse ++ r) ρ ω
  | .e, b, r, ρ, ω, h, hj, k => by
    rw [Mt.pre]
    refine g_forCons (step .e b ρ ω _ h hj fun ρ' ω' hP hj' => ⟨hP, k _ _ hP hj'⟩)
  | .w a c, b, r, ρ, ω, h, hj, k => by
    rw [Mt.pre, List.map_cons, List.reverse_cons, List.append_assoc]
    refine for_tree F Pre J hp step c b _ ρ ω (hp.1 _ _ _ h) hj fun ρ1 ω1 hP1 hj1 => ?_
    exact g_forCons (step (.w a c) b ρ1 ω1 _ h hj1 fun ρ' ω' hP hj' => ⟨hP, k _ _ hP hj'⟩)
  | .t a l r', b, r, ρ, ω, h, hj, k => by
    rw [Mt.pre, List.map_cons, List.reverse_cons, List.append_assoc, List.map_append, List.reverse_append, List.append_assoc]
    refine for_tree F Pre J hp step r' b _ ρ ω (hp.2 _ _ _ _ h).1 hj fun ρ1 ω1 hP1 hj1 => ?_
    refine for_tree F Pre J hp step l _ _ ρ1 ω1 (hp.2 _ _ _ _ h).2 hj1 fun ρ2 ω2 hP2 hj2 => ?_
    exact g_forCons (step (.t a l r') b ρ2 ω2 _ h hj2 fun ρ' ω' hP hj' => ⟨hP, k _ _ hP hj'⟩)
theorem for_tree0 {β : Type} {gd : TGD} {ts : TSD} {nx bk ct : Env → Sto → Prop} {rt : S → Sto → Prop} {x : XD} {P : Sto → Prop} {ρ : Env} {ω : Sto} (F : Mt → β → β) (Pre : Mt → β → Prop) (J : β → Env → Sto → Prop) (hp : Mt.Has F Pre)
    (step : ∀ (t : Mt) (b : β) (ρ : Env) (ω : Sto) (nx' : Env → Sto → Prop), Pre t b → J (Mt.kids F t b) ρ ω → (∀ ρ' ω', P ω' → J (F t b) ρ' ω' → nx' ρ' ω') → gd (.d t.d) ρ ω (fun ρ1 ω1 => ts ⟨nx', rt, nx, nx', x⟩ ρ1 ω1)) (t : Mt) (b : β) (h0 : Pre t b) (h1 : J b ρ ω) (he : ∀ ρ' ω', J (F t b) ρ' ω' → nx ρ' ω') :
    forR gd ts ⟨nx, rt, bk, ct, x⟩ P ((t.pre.map Mt.d).map S.d).reverse ρ ω := by
  have run := for_tree (bk := bk) (ct := ct) F Pre J hp step t b [] ρ ω h0 h1 fun ρ' ω' _ hj => g_forNil (he ρ' ω' hj)
  rw [List.append_nil] at run
  rw [List.map_map]
  exact run
theorem get_newm1 {α β : Type} {f : β → α} {z : List β} {a b : α} {m : List α} : (z.map f ++ a :: b :: m)[z.length + 1]? = some b := by
  rw [List.getElem?_append_right (by simp)]
  simp
theorem dl2 {α : Type} {l : List α} {a b : α} : (l ++ [a, b]).dropLast = l ++ [a] := by
  rw [show l ++ [a, b] = (l ++ [a]) ++ [b] by simp, List.dropLast_concat]
/-! ### other labels -/
def Mt.relab : Mt → List D → Mt
  | .e, _ => .e
  | .w a c, ls => .w (ls.headD a) (c.relab ls.tail)
  | .t a l r, ls => .t (ls.headD a) (l.relab (ls.tail.take l.size)) (r.relab (ls.tail.drop l.size))
def relF (t : Mt) (b : List Mt × List D) : List Mt × List D := (t.relab (b.2.take t.size).reverse :: b.1, b.2.drop t.size)
theorem sc_with_labels : FnScope ["shape", "labels", "left", "done", "now", "children", "_"] ["shape", "labels"] (defScope d_with_labels) := ⟨rfl, rfl, rfl, by decide +kernel, rfl, by decide +kernel, by decide +kernel⟩
def CWith : CP := fun ds q => ∃ (t : Mt) (ls : List D), ds = [t.d, .lst ls] ∧ t.size ≤ 10000 ∧ ls.length = t.size ∧ q (t.relab ls).d
section
variable {P : Program} {w : World} [Tb w] {K : PySem.W.Frag} {mg : Str → Option Value} {base : Heap}
theorem ok_with {k : Nat} (bu : Bu mg) (c__parts : Cal P w K mg base CX0 k "_parts" ["shape"] (spP K CParts)) (Dn : Dfn K mg "with_labels" ["shape", "labels"] d_with_labels) : Cal P w K mg base CX0 (k+1) "with_labels" ["shape", "labels"] (spP K CWith) := by
  refine calP Dn sc_with_labels (fun ds q h => ?_) fun f cdv A outer s H E ds q hr h => ?_
  · obtain ⟨t, ls, rfl, _⟩ := h
    rfl
  have hu := hu_of hr
  have hpass := @PassesOwn.never
  obtain ⟨t, ls, rfl, hsz, hl, hq⟩ := h
  have hn := t.pre_len
  refine ⟨_, _, (ys_cons (y_set (i := 2) sc_with_labels.nd rfl (y_listP bu (ya_cons (y_var 1) ya_nil)))
      (ys_cons (y_set (i := 3) sc_with_labels.nd rfl (y_lst ya_nil))
      (ys_cons (y_for hpass rfl (yi_rev bu (y_cal c__parts hr (ya_cons (y_var 0) ya_nil))) (yg_name (i := 4) sc_with_labels.nd rfl) (ys_one (y_ifS (yt_tru (y_var 4)) (ys_cons (y_setLc finD_ok (i := 5) (own := [("_", 6)]) rfl sc_with_labels.nd rfl rfl (sw_true rfl rfl rfl (by decide +kernel)) (yi_seq (y_slice (y_var 4) (yo_some y_int) yo_none)) (blkOk_by (own := [("_", 6)]) (N := ["shape", "labels", "left", "done", "now", "children", "_"]) (sc := defScope d_with_labels) (by decide +kernel)) go_name (fun _ _ _ _ _ => (yg_name (i := 6) sc_with_labels.nd rfl)) (fun _ _ _ _ _ => yts_nil) (fun _ _ _ _ _ => (y_pop (y_var 3))))
          (ys_one (y_expr (y_append (y_var 3) (ya_cons (y_tup (ya_cons (y_pop (y_var 2)) (ya_star (y_var 5) ya_nil))) ya_nil))))) (ys_one (y_expr (y_append (y_var 3) (ya_cons (y_tup ya_nil) ya_nil)))))))
      (ys_one (y_ret (y_ix hu (y_var 3) y_int (fun _ _ => rfl))))))), ?_⟩
  norm_cast
  push_cast []
  refine ⟨t, rfl, hsz, ?_⟩
  push_cast []
  refine for_tree0 relF (fun t b => t.size ≤ b.2.length ∧ b.1.length + t.size ≤ 20000) (fun b ρ ω => ∃ y z, ρ = [some (S.d t.d), some (S.d (D.lst ls)), some (S.pin 0), some (S.pin 1), y, z, none] ∧ ω = [Cell.lst (b.2.reverse.map S.d), Cell.lst (b.1.reverse.map fun s => S.d s.d)])
    ⟨fun a c b h => ⟨by have := h.1; simp only [Mt.size] at this; omega, by have := h.2; simp only [Mt.size] at this; omega⟩, fun a l r b h => ?_⟩ (fun u b ρ ω nx' hp hj hk => ?_) t ([], ls.reverse) ⟨by simp [hl], by simp; omega⟩ ⟨none, none, rfl, by simp⟩ (fun ρ' ω' hj => ?_)
  · have h1 := h.1
    have h2 := h.2
    simp only [Mt.size] at h1 h2
    refine ⟨⟨by omega, by omega⟩, ?_, ?_⟩
    · simp only [relF, List.length_drop]; omega
    · simp only [relF, List.length_cons]; omega
  rotate_left
  · obtain ⟨y, z, rfl, rfl⟩ := hj
    have e : (relF t ([], ls.reverse)).1 = [t.relab ls] := by
      simp only [relF]
      rw [List.take_of_length_le (by simp [hl]), List.reverse_reverse]
    rw [e]
    push_cast []
    exact hq
  · obtain ⟨y, z, rfl, rfl⟩ := hj
    obtain ⟨stk, lf⟩ := b
    obtain ⟨h1, h2⟩ := hp
    simp only at h1 h2
    cases u with
    | e =>
      simp only [Mt.d, Mt.kids]
      push_cast []
      refine ⟨by rw [List.length_reverse]; omega, ?_⟩
      refine hk _ _ trivial ⟨_, _, rfl, ?_⟩
      simp [relF, Mt.relab, Mt.size, Mt.d]
    | w a c =>
      simp only [Mt.size] at h1 h2
      have e1 : lf.drop c.size = lf[c.size] :: lf.drop (c.size + 1) := List.drop_eq_getElem_cons (by omega)
      have e2 : (lf.take (c.size + 1)).reverse = lf[c.size] :: (lf.take c.size).reverse := by
        rw [List.take_add_one, List.getElem?_eq_getElem (by omega : c.size < lf.length)]
        simp
      simp only [Mt.kids, relF, e1, List.reverse_cons, List.map_append, List.map_cons, List.map_nil]
      simp only [Mt.d]
      push_cast []
      refine ⟨by rw [List.length_reverse]; omega, ?_⟩
      refine hk _ _ trivial ⟨_, _, rfl, ?_⟩
      simp [relF, Mt.relab, Mt.size, Mt.d, e2]
    | t a l r =>
      simp only [Mt.size] at h1 h2
      have hlt : r.size + l.size < lf.length := by omega
      have e1 : (lf.drop r.size).drop l.size = lf[r.size + l.size] :: lf.drop (r.size + l.size + 1) := by
        rw [List.drop_drop]
        exact List.drop_eq_getElem_cons hlt
      have e2 : (lf.take (l.size + r.size + 1)).reverse = lf[r.size + l.size] :: (((lf.drop r.size).take l.size).reverse ++ (lf.take r.size).reverse) := by
        rw [show l.size + r.size + 1 = (r.size + l.size) + 1 by omega, List.take_add_one, List.getElem?_eq_getElem hlt, List.reverse_append]
        rw [← List.reverse_append, List.take_add]
        simp
      have e3 : (((lf.drop r.size).take l.size).reverse).length = l.size := by
        rw [List.length_reverse, List.length_take, List.length_drop]
        omega
      simp only [Mt.kids, relF, e1, List.reverse_cons, List.map_append, List.map_cons, List.map_nil]
      simp only [Mt.d]
      push_cast [get_newm1, dl2]
      refine ⟨by rw [List.length_reverse]; omega, ?_⟩
      refine hk _ _ trivial ⟨_, _, rfl, ?_⟩
      rw [relF, Mt.size, e2]
      simp only [Mt.relab, List.headD_cons, List.tail_cons]
      rw [List.take_left' e3, List.drop_left' e3]
      simp [Mt.d, show l.size + r.size + 1 = r.size + l.size + 1 by omega]
end
end Y


set_option Elab.async false
set_option linter.all false
set_option maxRecDepth 100000
set_option maxHeartbeats 2000000
namespace Y
open PySem PySem.Spec PyProof.Rows L2 StX
local macro_rules | `(tactic| push_cast [$xs,*]) => `(tactic| repeat (first | (with_reducible first | refine g_c ?_ | (refine g_v ?_; first | refine g_var0 ?_ | refine g_var1 ?_ | refine g_var2 ?_ | refine g_var3 ?_ | refine g_var4 ?_ | refine g_var5 ?_ | refine g_var6 ?_ | refine g_var7 ?_ | refine g_var8 ?_ | refine g_var9 ?_ | refine g_var10 ?_ | refine g_var11 ?_ | refine g_var12 ?_ | refine g_var13 ?_ | refine g_var14 ?_ | refine g_var15 ?_)) | ((with_reducible refine lf_go fun Q hQ => ?_); simp only [FrzAt, sortSD, zipD, rslD, setSortD, finJ, slotsD, upg, ix_dicK, ix_dicT, ix_dicP, in_dicK, in_dicT, in_dicP, pkeyOf, seqD, revSeqD, spreadS, truD, slD, tyOk, appD, popD, extD, itemsOf, negD, putD, putC, sizeC, ty_non, ty_bl, ty_int, ty_str, ty_tup, ty_ktup, ty_lst, ty_pin, kitS, intO, addD, subD, mulD, modD, fdivD, shlD, shrD, bandD, borD, eq_ii, eq_ss, eq_bb, eq_tt, eq_ll, eq_tk, ordD, ltD, leD, gtD, geD, in_tup, in_ktup, in_lst, in_str, in_pin, inSq_str, inSq_int, isND, isNon, isBD, ix_tup, ix_ktup, ix_lst, ix_str, ix_pin, lookC, keyOf, keysOf, valS_nil, valS_cons, putS_nil, putS_cons, mergeS, kgetD, kixD, revD, wipeD, allD, len_tup, len_ktup, len_lst, len_str, len_pin, intD, absD, sumD, boolsD, tupD, listD, listP, dictC, lstOf, sqOf, frzC, allB, allI, allDk, ofString_inj, atI_0, atI_1, atI_2, atI_3, atI_1m1, atI_2m1, atI_2m2, atI_3m1, atI_3m2, atI_4m1, atI_4m2, cut_1, cut_2, cut_to1, cut_to2, cut_none, allD_map, List.map_cons, List.map_nil, List.length_cons, List.length_nil, List.length_append, List.length_map, List.length_set, List.replicate, List.nil_append, List.cons_append, List.append_nil, List.append_assoc, List.getElem?_cons_zero, List.getElem?_cons_succ, List.getElem?_nil, List.set_cons_zero, List.set_cons_succ, List.find?_cons, List.find?_nil, List.any_cons, List.any_nil, List.foldl_cons, List.foldl_nil, List.isEmpty_cons, List.isEmpty_nil, List.dropLast_concat, get_new, get_new1, get_new2, get_new3, set_new, set_new1, set_new2, set_new3, Option.map_some, Option.map_none, Option.isSome_some, Option.isSome_none, Option.some.injEq, Sum.inr.injEq, Sum.inl.injEq, reduceCtorEq, if_true, if_false, ite_true, ite_false, Bool.false_eq_true, Bool.not_true, Bool.not_false, Bool.false_xor, Bool.true_xor, Bool.xor_false, Bool.xor_true, decide_true, decide_false, decide_eq_true_eq, true_and, and_true, false_and, and_false, Bool.or_true, Bool.or_false, Bool.true_or, Bool.false_or, Bool.and_true, Bool.and_false, Bool.true_and, Bool.false_and, not_true_eq_false, not_false_eq_true, Nat.reduceAdd, Nat.reduceSub, Nat.reduceLeDiff, Nat.reduceLT, Nat.reduceEqDiff, Nat.reduceMul, Int.reduceLE, Int.reduceLT, Int.reduceEq, Int.reduceAdd, Int.reduceSub, Int.reduceNeg, Int.reduceMul, Int.reduceToNat, String.reduceEq, String.reduceBEq, reduceIte, Int.cast_ofNat_Int, Nat.zero_add, rng_0, rng_1, rng_2, rng_3, Nat.add_one_sub_one, List.reverse_nil, strsOf_nil, strsOf_cons, strsOf_map, intsOf_nil, intsOf_cons, intsOf_map, List.mem_cons, List.not_mem_nil, or_false, false_or, or_true, true_or, allB_map, allI_map, allB_mapf, allI_mapf, get_newm, allD_app, allD_mapf, isEmpty_snoc, $xs,*]; subst hQ; try dsimp only) | (with_reducible first | refine g_op ?_ | refine g_cons ?_ | refine g_nil ?_ | refine g_test ?_ | refine g_asB ?_ | refine g_true ?_ | refine g_false ?_ | refine g_dec ?_ | refine g_seq ?_ | refine g_un ?_ | refine g_b ?_ | refine g_nt ?_ | refine g_ifS ?_ | refine g_ret ?_ | refine g_next ?_ | (refine g_st ?_; first | refine g_set0 ?_ | refine g_set1 ?_ | refine g_set2 ?_ | refine g_set3 ?_ | refine g_set4 ?_ | refine g_set5 ?_ | refine g_set6 ?_ | refine g_set7 ?_ | refine g_set8 ?_ | refine g_set9 ?_ | refine g_set10 ?_ | refine g_set11 ?_ | refine g_set12 ?_ | refine g_set13 ?_ | refine g_set14 ?_ | refine g_set15 ?_) | (refine g_gn ?_; first | refine g_gn0 ?_ | refine g_gn1 ?_ | refine g_gn2 ?_ | refine g_gn3 ?_ | refine g_gn4 ?_ | refine g_gn5 ?_ | refine g_gn6 ?_ | refine g_gn7 ?_ | refine g_gn8 ?_ | refine g_gn9 ?_ | refine g_gn10 ?_ | refine g_gn11 ?_ | refine g_gn12 ?_ | refine g_gn13 ?_ | refine g_gn14 ?_ | refine g_gn15 ?_) | refine g_lf1 ?_ | refine g_lf2 ?_ | refine g_notTv ?_ | refine g_andT ?_ | refine g_orT ?_ | refine g_notT ?_ | refine g_mt ?_ | refine g_mt0 ?_ | refine g_drop ?_ | refine g_tup ?_ | refine g_lstD ?_ | refine g_lst ?_ | refine g_if ?_ | refine g_call ?_ | refine g_callG ?_ | refine g_callX ?_ | refine g_callGX ?_ | refine g_tru ?_ | refine g_andV ?_ | refine g_orV ?_ | refine g_notV ?_ | refine g_sl ?_ | refine g_noPart ?_ | refine g_part ?_ | refine g_partI ?_ | refine g_chain ?_ | refine g_putS ?_ | refine g_isi ?_ | refine g_star ?_ | refine g_for ?_ | refine g_lc ?_ | refine g_seqI ?_ | refine g_revI ?_ | refine g_rng1 ?_ | refine g_rng2 ?_ | refine g_gNil ?_ | refine g_gCons ?_ | refine g_gTup2 ?_ | refine g_gTup3 ?_ | refine g_gTup4 ?_ | refine g_yes ?_ | refine g_retN ?_ | refine g_break ?_ | refine g_cont ?_ | refine g_finD ?_ | refine g_finD2 ?_ | refine g_finP ?_ | refine g_lcB ?_ | refine g_lcNil ?_ | refine g_lcCons ?_ | refine g_forNil ?_ | refine g_forCons ?_ | refine g_rtP ?_ | refine g_rtPin ?_ | refine g_disp ?_ | refine g_pairs0 ?_ | refine g_pairsS ?_ | refine g_pairsI ?_ | refine g_newK ?_ | refine g_newT ?_ | refine g_newP ?_ | refine g_zipI ?_ | refine g_revrng ?_ | refine g_lcN ?_ | refine g_mid ?_ | refine g_elt ?_ | refine g_lcTNil ?_ | refine g_lcTCons ?_ | refine g_dc ?_ | refine g_dcNil ?_ | refine g_dcCons ?_ | refine g_lam ?_ | refine g_callB ?_ | refine g_frz ?_ | refine g_loc rfl ?_ | refine g_locC rfl ?_) | ((with_reducible refine g_pos ?_ ?_); · first | assumption | rfl | omega) | ((with_reducible refine g_neg ?_ ?_); · first | assumption | omega | decide) | ((with_reducible refine And.intro ?_ ?_); · first | trivial | assumption | omega | exact Or.inr (by decide) | (dsimp only; omega) | (simp; done))))
local macro_rules | `(tactic| norm_cast) => `(tactic| ((first | with_reducible refine g_endsG ?_ | with_reducible refine g_endsP ?_); simp only [start_eq, List.map_cons, List.map_nil, List.replicate, List.length_cons, List.length_nil, Nat.reduceAdd, Nat.reduceSub, Nat.zero_add, List.cons_append, List.nil_append]))
def Mt.paths : Mt → List Int → List (List Int)
  | .e, _ => []
  | .w _ c, p => p :: c.paths (p ++ [0])
  | .t _ l r, p => p :: (l.paths (p ++ [0]) ++ r.paths (p ++ [1]))
theorem Sh.m_paths : ∀ (s : Sh) (p : List Int), s.m.paths p = s.paths p
  | .e, _ => rfl
  | .w a c, p => by rw [Sh.m, Mt.paths, c.m_paths, Sh.paths]
  | .t a l r, p => by rw [Sh.m, Mt.paths, l.m_paths, r.m_paths, Sh.paths]
theorem Mt.paths_len : ∀ (s : Mt) (p : List Int), (s.paths p).length = s.size
  | .e, _ => rfl
  | .w _ c, p => by rw [Mt.paths, List.length_cons, c.paths_len, Mt.size]
  | .t _ l r, p => by rw [Mt.paths, List.length_cons, List.length_append, l.paths_len, r.paths_len, Mt.size]
def pkD (q : List Int × Mt) : D := .tup [pathD q.1, q.2.d]
theorem sc_paths : FnScope ["shape", "waiting", "found", "path", "now", "step"] ["shape"] (defScope d_paths) := ⟨rfl, rfl, rfl, by decide +kernel, rfl, by decide +kernel, by decide +kernel⟩
def CPathsP : CP := fun ds q => ∃ t : Mt, ds = [t.d] ∧ t.size ≤ 10000 ∧ q (.lst ((t.paths []).map pathD))
section
variable {P : Program} {w : World} [Tb w] {K : PySem.W.Frag} {mg : Str → Option Value} {base : Heap}
theorem ok_pathsP {k : Nat} (bu : Bu mg) (Dn : Dfn K mg "paths" ["shape"] d_paths) : Cal P w K mg base CX0 (k+1) "paths" ["shape"] (spP K CPathsP) := by
  refine calP Dn sc_paths (fun ds q h => ?_) fun f cdv A outer s H E ds q hr h => ?_
  · obtain ⟨t, rfl, _⟩ := h
    rfl
  have hu := hu_of hr
  have hpass := @PassesOwn.never
  obtain ⟨t, rfl, hsz, hq⟩ := h
  have hn := t.pre_len
  refine ⟨_, _, (ys_cons (y_set (i := 1) sc_paths.nd rfl (y_lst (ya_cons (y_tup (ya_cons (y_tup ya_nil) (ya_cons (y_var 0) ya_nil))) ya_nil)))
      (ys_cons (y_set (i := 2) sc_paths.nd rfl (y_lst ya_nil))
      (ys_cons (y_while hpass (yt_tru (y_var 1)) (ys_cons (y_asg (y_pop (y_var 1)) (yg_tup (n := 2) rfl (ygs_cons (yg_name (i := 3) sc_paths.nd rfl) (ygs_cons (yg_name (i := 4) sc_paths.nd rfl) ygs_nil))))
        (ys_cons (y_ifS (yt_tru (y_var 4)) (ys_one (y_expr (y_append (y_var 2) (ya_cons (y_var 3) ya_nil)))) ys_nil)
        (ys_one (y_for hpass rfl (yi_revrange1 bu (y_len bu (ya_cons (y_slice (y_var 4) (yo_some y_int) yo_none) ya_nil))) (yg_name (i := 5) sc_paths.nd rfl) (ys_one (y_expr (y_append (y_var 1) (ya_cons (y_tup (ya_cons (y_add (y_var 3) (y_tup (ya_cons (y_var 5) ya_nil))) (ya_cons (y_ix hu (y_var 4) (y_add (y_var 5) y_int) (fun _ _ => rfl)) ya_nil))) ya_nil)))))))))
      (ys_one (y_ret (y_var 2)))))), ?_⟩
  norm_cast
  push_cast []
  refine while_ind (n := t.pre.length) (fun n ρ ω => ∃ (stk : List (List Int × Mt)) (done : List (List Int)) (x y z : Option S), ρ = [some (.d t.d), some (.pin 0), some (.pin 1), x, y, z] ∧ ω = [.lst (stk.reverse.map fun s => .d (pkD s)), .lst (done.map fun s => .d (pathD s))] ∧ done ++ (stk.map fun q => q.2.paths q.1).flatten = t.paths [] ∧ n = ((stk.map (·.2)).map Mt.pre).flatten.length ∧ n ≤ t.pre.length ∧ done.length ≤ t.size ∧ ∀ q ∈ stk, q.1.length + q.2.size ≤ t.size) ⟨[([], t)], [], none, none, none, rfl, by simp [pkD, pathD], by simp, by simp, by simp, by simp, by simp⟩ ?_
  rintro n ρ ω nx ⟨stk, done, x, y, z, rfl, rfl, e1, e2, hnn, hdl, hlen⟩ hnx
  cases stk with
  | nil =>
    push_cast []
    rw [List.map_nil, List.flatten_nil, List.append_nil] at e1
    rw [e1]
    exact hq
  | cons s rest =>
    obtain ⟨p, s⟩ := s
    have hs : s.pre.length = 1 + ((s.ins.map Mt.pre).flatten).length := by rw [s.pre_eq]; simp; omega
    have h1 := Mt.lens (rest.map (·.2))
    rw [List.length_map] at h1
    rw [List.map_cons, List.map_cons, List.flatten_cons, List.length_append] at e2
    have hp := hlen (p, s) (by simp)
    simp only at hp
    rw [List.reverse_cons, List.map_append]
    have hrl : rest.length ≤ 30000 := by omega
    have hrr : rest.reverse.length < 999990 := by rw [List.length_reverse]; omega
    cases s with
    | e =>
      simp only [pkD, pathD, Mt.d]
      push_cast [cut_e, pathD, Mt.d]
      refine hnx ((rest.map (·.2)).map Mt.pre).flatten.length _ _ (by simp only [Mt.pre, List.length_cons] at e2; omega) ⟨rest, done, _, _, _, rfl, rfl, ?_, rfl, by omega, hdl, fun q hq => hlen q (by simp [hq])⟩
      rw [← e1]
      simp [Mt.paths]
    | w a c =>
      simp only [pkD, pathD, Mt.d]
      push_cast [pathD, Mt.d]
      rw [show [S.d (D.int 0)].reverse = [S.d (D.int 0)] from rfl]
      push_cast [pathD, Mt.d]
      simp only [Mt.size, Mt.pre, List.length_cons] at hp e2
      refine hnx (((p ++ [0], c) :: rest).map (·.2) |>.map Mt.pre).flatten.length _ _ (by simp only [List.map_cons, List.flatten_cons, List.length_append]; omega) ⟨(p ++ [0], c) :: rest, done ++ [p], _, _, _, rfl, ?_, ?_, rfl, ?_, ?_, fun q hq => ?_⟩
      · simp [pkD, pathD]
      · rw [← e1]
        simp [Mt.paths]
      · simp only [List.map_cons, List.flatten_cons, List.length_append]; omega
      · have h3 := congrArg List.length e1
        rw [Mt.paths_len, List.map_cons, List.flatten_cons, List.length_append, List.length_append, Mt.paths_len] at h3
        simp only [Mt.size] at h3
        rw [List.length_append, List.length_singleton]
        omega
      · rcases List.mem_cons.mp hq with rfl | hq
        · simp only [List.length_append, List.length_singleton]; omega
        · exact hlen q (by simp [hq])
    | t a l r =>
      simp only [pkD, pathD, Mt.d]
      push_cast [pathD, Mt.d]
      rw [show [S.d (D.int 0), S.d (D.int 1)].reverse = [S.d (D.int 1), S.d (D.int 0)] from rfl]
      push_cast [pathD, Mt.d]
      simp only [Mt.size, Mt.pre, List.length_cons, List.length_append] at hp e2
      refine hnx (((p ++ [0], l) :: (p ++ [1], r) :: rest).map (·.2) |>.map Mt.pre).flatten.length _ _ (by simp only [List.map_cons, List.flatten_cons, List.length_append]; omega) ⟨(p ++ [0], l) :: (p ++ [1], r) :: rest, done ++ [p], _, _, _, rfl, ?_, ?_, rfl, ?_, ?_, fun q hq => ?_⟩
      · simp [pkD, pathD]
      · rw [← e1]
        simp [Mt.paths]
      · simp only [List.map_cons, List.flatten_cons, List.length_append]; omega
      · have h3 := congrArg List.length e1
        rw [Mt.paths_len, List.map_cons, List.flatten_cons, List.length_append, List.length_append, Mt.paths_len] at h3
        simp only [Mt.size] at h3
        rw [List.length_append, List.length_singleton]
        omega
      · rcases List.mem_cons.mp hq with rfl | hq
        · simp only [List.length_append, List.length_singleton]; omega
        · rcases List.mem_cons.mp hq with rfl | hq
          · simp only [List.length_append, List.length_singleton]; omega
          · exact hlen q (by simp [hq])
end
end Y


set_option Elab.async false
set_option linter.all false
set_option maxRecDepth 100000
set_option maxHeartbeats 2000000
namespace Y
open PySem PySem.Spec PyProof.Rows L2 StX XS
local macro_rules | `(tactic| push_cast [$xs,*]) => `(tactic| repeat (first | (with_reducible first | refine g_c ?_ | (refine g_v ?_; first | refine g_var0 ?_ | refine g_var1 ?_ | refine g_var2 ?_ | refine g_var3 ?_ | refine g_var4 ?_ | refine g_var5 ?_ | refine g_var6 ?_ | refine g_var7 ?_ | refine g_var8 ?_ | refine g_var9 ?_ | refine g_var10 ?_ | refine g_var11 ?_ | refine g_var12 ?_ | refine g_var13 ?_ | refine g_var14 ?_ | refine g_var15 ?_)) | ((with_reducible refine lf_go fun Q hQ => ?_); simp only [FrzAt, sortSD, zipD, rslD, setSortD, finJ, slotsD, upg, ix_dicK, ix_dicT, ix_dicP, in_dicK, in_dicT, in_dicP, pkeyOf, seqD, revSeqD, spreadS, truD, slD, tyOk, appD, popD, extD, itemsOf, negD, putD, putC, sizeC, ty_non, ty_bl, ty_int, ty_str, ty_tup, ty_ktup, ty_lst, ty_pin, kitS, intO, addD, subD, mulD, modD, fdivD, shlD, shrD, bandD, borD, eq_ii, eq_ss, eq_bb, eq_tt, eq_ll, eq_tk, ordD, ltD, leD, gtD, geD, in_tup, in_ktup, in_lst, in_str, in_pin, inSq_str, inSq_int, isND, isNon, isBD, ix_tup, ix_ktup, ix_lst, ix_str, ix_pin, lookC, keyOf, keysOf, valS_nil, valS_cons, putS_nil, putS_cons, mergeS, kgetD, kixD, revD, wipeD, allD, len_tup, len_ktup, len_lst, len_str, len_pin, intD, absD, sumD, boolsD, tupD, listD, listP, dictC, lstOf, sqOf, frzC, allB, allI, allDk, ofString_inj, atI_0, atI_1, atI_2, atI_3, atI_1m1, atI_2m1, atI_2m2, atI_3m1, atI_3m2, atI_4m1, atI_4m2, cut_1, cut_2, cut_to1, cut_to2, cut_none, allD_map, List.map_cons, List.map_nil, List.length_cons, List.length_nil, List.length_append, List.length_map, List.length_set, List.replicate, List.nil_append, List.cons_append, List.append_nil, List.append_assoc, List.getElem?_cons_zero, List.getElem?_cons_succ, List.getElem?_nil, List.set_cons_zero, List.set_cons_succ, List.find?_cons, List.find?_nil, List.any_cons, List.any_nil, List.foldl_cons, List.foldl_nil, List.isEmpty_cons, List.isEmpty_nil, List.dropLast_concat, get_new, get_new1, get_new2, get_new3, set_new, set_new1, set_new2, set_new3, Option.map_some, Option.map_none, Option.isSome_some, Option.isSome_none, Option.some.injEq, Sum.inr.injEq, Sum.inl.injEq, reduceCtorEq, if_true, if_false, ite_true, ite_false, Bool.false_eq_true, Bool.not_true, Bool.not_false, Bool.false_xor, Bool.true_xor, Bool.xor_false, Bool.xor_true, decide_true, decide_false, decide_eq_true_eq, true_and, and_true, false_and, and_false, Bool.or_true, Bool.or_false, Bool.true_or, Bool.false_or, Bool.and_true, Bool.and_false, Bool.true_and, Bool.false_and, not_true_eq_false, not_false_eq_true, Nat.reduceAdd, Nat.reduceSub, Nat.reduceLeDiff, Nat.reduceLT, Nat.reduceEqDiff, Nat.reduceMul, Int.reduceLE, Int.reduceLT, Int.reduceEq, Int.reduceAdd, Int.reduceSub, Int.reduceNeg, Int.reduceMul, Int.reduceToNat, String.reduceEq, String.reduceBEq, reduceIte, Int.cast_ofNat_Int, Nat.zero_add, rng_0, rng_1, rng_2, rng_3, Nat.add_one_sub_one, List.reverse_nil, strsOf_nil, strsOf_cons, strsOf_map, intsOf_nil, intsOf_cons, intsOf_map, List.mem_cons, List.not_mem_nil, or_false, false_or, or_true, true_or, allB_map, allI_map, allB_mapf, allI_mapf, get_newm, allD_app, allD_mapf, isEmpty_snoc, $xs,*]; subst hQ; try dsimp only) | (with_reducible first | refine g_op ?_ | refine g_cons ?_ | refine g_nil ?_ | refine g_test ?_ | refine g_asB ?_ | refine g_true ?_ | refine g_false ?_ | refine g_dec ?_ | refine g_seq ?_ | refine g_un ?_ | refine g_b ?_ | refine g_nt ?_ | refine g_ifS ?_ | refine g_ret ?_ | refine g_next ?_ | (refine g_st ?_; first | refine g_set0 ?_ | refine g_set1 ?_ | refine g_set2 ?_ | refine g_set3 ?_ | refine g_set4 ?_ | refine g_set5 ?_ | refine g_set6 ?_ | refine g_set7 ?_ | refine g_set8 ?_ | refine g_set9 ?_ | refine g_set10 ?_ | refine g_set11 ?_ | refine g_set12 ?_ | refine g_set13 ?_ | refine g_set14 ?_ | refine g_set15 ?_) | (refine g_gn ?_; first | refine g_gn0 ?_ | refine g_gn1 ?_ | refine g_gn2 ?_ | refine g_gn3 ?_ | refine g_gn4 ?_ | refine g_gn5 ?_ | refine g_gn6 ?_ | refine g_gn7 ?_ | refine g_gn8 ?_ | refine g_gn9 ?_ | refine g_gn10 ?_ | refine g_gn11 ?_ | refine g_gn12 ?_ | refine g_gn13 ?_ | refine g_gn14 ?_ | refine g_gn15 ?_) | refine g_lf1 ?_ | refine g_lf2 ?_ | refine g_notTv ?_ | refine g_andT ?_ | refine g_orT ?_ | refine g_notT ?_ | refine g_mt ?_ | refine g_mt0 ?_ | refine g_drop ?_ | refine g_tup ?_ | refine g_lstD ?_ | refine g_lst ?_ | refine g_if ?_ | refine g_call ?_ | refine g_callG ?_ | refine g_callX ?_ | refine g_callGX ?_ | refine g_tru ?_ | refine g_andV ?_ | refine g_orV ?_ | refine g_notV ?_ | refine g_sl ?_ | refine g_noPart ?_ | refine g_part ?_ | refine g_partI ?_ | refine g_chain ?_ | refine g_putS ?_ | refine g_isi ?_ | refine g_star ?_ | refine g_for ?_ | refine g_lc ?_ | refine g_seqI ?_ | refine g_revI ?_ | refine g_rng1 ?_ | refine g_rng2 ?_ | refine g_gNil ?_ | refine g_gCons ?_ | refine g_gTup2 ?_ | refine g_gTup3 ?_ | refine g_gTup4 ?_ | refine g_yes ?_ | refine g_retN ?_ | refine g_break ?_ | refine g_cont ?_ | refine g_finD ?_ | refine g_finD2 ?_ | refine g_finP ?_ | refine g_lcB ?_ | refine g_lcNil ?_ | refine g_lcCons ?_ | refine g_forNil ?_ | refine g_forCons ?_ | refine g_rtP ?_ | refine g_rtPin ?_ | refine g_disp ?_ | refine g_pairs0 ?_ | refine g_pairsS ?_ | refine g_pairsI ?_ | refine g_newK ?_ | refine g_newT ?_ | refine g_newP ?_ | refine g_zipI ?_ | refine g_revrng ?_ | refine g_lcN ?_ | refine g_mid ?_ | refine g_elt ?_ | refine g_lcTNil ?_ | refine g_lcTCons ?_ | refine g_dc ?_ | refine g_dcNil ?_ | refine g_dcCons ?_ | refine g_lam ?_ | refine g_callB ?_ | refine g_frz ?_ | refine g_loc rfl ?_ | refine g_locC rfl ?_) | ((with_reducible refine g_pos ?_ ?_); · first | assumption | rfl | omega) | ((with_reducible refine g_neg ?_ ?_); · first | assumption | omega | decide) | ((with_reducible refine And.intro ?_ ?_); · first | trivial | assumption | omega | exact Or.inr (by decide) | (dsimp only; omega) | (simp; done))))
local macro_rules | `(tactic| norm_cast) => `(tactic| ((first | with_reducible refine g_endsG ?_ | with_reducible refine g_endsP ?_); simp only [start_eq, List.map_cons, List.map_nil, List.replicate, List.length_cons, List.length_nil, Nat.reduceAdd, Nat.reduceSub, Nat.zero_add, List.cons_append, List.nil_append]))
def leS (a b : Str) : Prop := ltCps b.cps.toList a.cps.toList = false
theorem leS_iff {a b : Str} : leS a b ↔ a.cps.toList ≤ b.cps.toList := by
  unfold leS
  rw [ltCps_eq, decide_eq_false_iff_not]
  exact List.not_lt
theorem leS_trans {a b c : Str} (h : leS a b) (k : leS b c) : leS a c := leS_iff.mpr (List.le_trans (leS_iff.mp h) (leS_iff.mp k))
theorem leS_anti {a b : Str} (h : leS a b) (k : leS b a) : a = b := by
  have e := List.le_antisymm (leS_iff.mp h) (leS_iff.mp k)
  exact Str.ext' (Array.toList_inj.mp e)
theorem risingS_pw : ∀ (p : Str) (l : List Str), risingS p l = true → (p :: l).Pairwise leS
  | p, [], _ => List.pairwise_singleton _ _
  | p, x :: r, h => by
    simp only [risingS, Bool.and_eq_true, Bool.not_eq_true'] at h
    have ih := risingS_pw x r h.2
    refine List.pairwise_cons.mpr ⟨fun y hy => ?_, ih⟩
    rcases List.mem_cons.mp hy with rfl | hy
    · exact h.1
    · exact leS_trans (show leS p x from h.1) ((List.pairwise_cons.mp ih).1 y hy)
theorem sortedS_pw : ∀ {l : List Str}, sortedS l = true → l.Pairwise leS
  | [], _ => List.Pairwise.nil
  | x :: r, h => risingS_pw x r h
theorem sorted_perm {ys xs zs : List Str} (p : ys.Perm xs) (s : sortedS ys = true) (hz : sortedS zs = true) (pz : zs.Perm xs) : ys = zs :=
  List.Perm.eq_of_pairwise (fun a b _ _ x y => leS_anti x y) (sortedS_pw s) (sortedS_pw hz) (p.trans pz.symm)
theorem sorted_once {ys xs zs : List Str} (p : ys.Perm (once xs)) (s : sortedS ys = true) (hz : sortedS zs = true) (nd : zs.Nodup) (m : ∀ x, x ∈ xs ↔ x ∈ zs) : ys = zs :=
  sorted_perm p s hz ((List.perm_ext_iff_of_nodup nd (once_nodup xs [] List.nodup_nil)).mpr fun x => (m x).symm.trans once_mem.symm)
theorem str_clean {xs : List Str} (h : ∀ a ∈ xs, PyData.strOk a = true) (n : Nat) : cleanD (n + 2) (.lst (xs.map .str)) = true := by
  rw [cleanD]
  exact cleanDs_of fun d hd => by obtain ⟨a, ha, rfl⟩ := List.mem_map.mp hd; rw [cleanD]; exact h a ha
theorem eqvAll_strs : ∀ {p r : List Str}, PyData.eqvAll (toPs (p.map .str)) (toPs (r.map .str)) = decide (p = r)
  | [], [] => rfl
  | a :: p, b :: r => by
    rw [List.map_cons, List.map_cons, toPs, toPs, PyData.eqvAll, eqvAll_strs, toP, toP, PyData.eqv]
    by_cases h1 : a = b <;> by_cases h2 : p = r <;> simp [h1, h2]
  | [], _ :: _ => by simp [toPs, PyData.eqvAll]
  | _ :: _, [] => by simp [toPs, PyData.eqvAll]
theorem eqv_strs {p r : List Str} : PyData.eqv (toP (.lst (p.map .str))) (toP (.lst (r.map .str))) = decide (p = r) := by
  rw [toP, toP, PyData.eqv, eqvAll_strs]
/-- the lists of labels that the law comes upon -/
def LS6 : List (List Str) := [["a"], ["a", "b"], ["b", "d", "z"], ["a", "c"], ["b", "a", "c"], ["z", "d", "b", "c"]]
def kB (labels : List Str) : Bool := decide (labels ∈ ([["a"], ["a", "b"], ["b", "d", "z"], ["a", "c"]] : List (List Str)))
def srt6 (labels : List Str) : List Str := if labels = (["b", "a", "c"] : List Str) then ["a", "b", "c"] else if labels = (["z", "d", "b", "c"] : List Str) then ["b", "c", "d", "z"] else labels
theorem ls6_cases {P : List Str → Prop} (h1 : P ["a"]) (h2 : P ["a", "b"]) (h3 : P ["b", "d", "z"]) (h4 : P ["a", "c"]) (h5 : P ["b", "a", "c"]) (h6 : P ["z", "d", "b", "c"]) {l : List Str} (h : l ∈ LS6) : P l := by
  simp only [LS6, List.mem_cons, List.not_mem_nil, or_false] at h
  rcases h with rfl | rfl | rfl | rfl | rfl | rfl <;> assumption
theorem ls6_ok {l : List Str} (h : l ∈ LS6) : (∀ a ∈ l, PyData.strOk a = true ∧ a.length = 1 ∧ a ∈ (["a", "b", "c", "d", "z"] : List Str)) ∧ 1 ≤ l.length ∧ l.length ≤ 4 ∧ sortedS (srt6 l) = true ∧ (srt6 l).Perm l ∧ (srt6 l).Nodup ∧ (∀ a ∈ srt6 l, PyData.strOk a = true) := by
  revert l
  have : ∀ l ∈ LS6, (∀ a ∈ l, PyData.strOk a = true ∧ a.length = 1 ∧ a ∈ (["a", "b", "c", "d", "z"] : List Str)) ∧ 1 ≤ l.length ∧ l.length ≤ 4 ∧ sortedS (srt6 l) = true ∧ (srt6 l).Perm l ∧ (srt6 l).Nodup ∧ (∀ a ∈ srt6 l, PyData.strOk a = true) := by decide +kernel
  exact fun {l} h => this l h
theorem ls6_kB {l : List Str} (h : l ∈ LS6) : kB l = (decide (l.length ≤ 3) && decide (l = srt6 l)) := by
  revert l
  have : ∀ l ∈ LS6, kB l = (decide (l.length ≤ 3) && decide (l = srt6 l)) := by decide +kernel
  exact fun {l} h => this l h
theorem set_srt {l ys : List Str} (h : l ∈ LS6) (p : ys.Perm (once l)) (s : sortedS ys = true) : ys = srt6 l := by
  obtain ⟨_, _, _, h1, h2, h3, _⟩ := ls6_ok h
  exact sorted_once p s h1 h3 fun x => h2.mem_iff.symm
theorem sc_is_whole : FnScope ["value"] ["value"] (defScope d_is_whole) := ⟨rfl, rfl, rfl, by decide +kernel, rfl, by decide +kernel, by decide +kernel⟩
theorem sc_is_kind : FnScope ["value", "ways", "labels", "label"] ["value"] (defScope d_is_kind) := ⟨rfl, rfl, rfl, by decide +kernel, rfl, by decide +kernel, by decide +kernel⟩
theorem sc__is_letter : FnScope ["value"] ["value"] (defScope d__is_letter) := ⟨rfl, rfl, rfl, by decide +kernel, rfl, by decide +kernel, by decide +kernel⟩
theorem sc_check_kind : FnScope ["kind"] ["kind"] (defScope d_check_kind) := ⟨rfl, rfl, rfl, by decide +kernel, rfl, by decide +kernel, by decide +kernel⟩
def isI : D → Bool
  | .int _ => true
  | _ => false
def CWhole : CP := fun ds q => ∃ a m, ds = [a] ∧ goodD m a = true ∧ q (.bl (isI a))
def CLetter : CP := fun ds q => ∃ a : Str, ds = [.str a] ∧ a ∈ (["a", "b", "c", "d", "z"] : List Str) ∧ q (.bl true)
def CIsKind : CP := fun ds q => ∃ (ways : Int) (labels : List Str), ds = [kindD ways labels] ∧ (ways = 1 ∨ ways = 2) ∧ labels ∈ LS6 ∧ q (.bl (kB labels))
def CCheck : CP := fun ds q => ∃ (ways : Int) (labels : List Str), ds = [kindD ways labels] ∧ (ways = 1 ∨ ways = 2) ∧ labels ∈ LS6 ∧ kB labels = true ∧ q .non
section
variable {P : Program} {w : World} [Tb w] {K : PySem.W.Frag} {mg : Str → Option Value} {base : Heap}
theorem ok_whole {k : Nat} (bu : Bu mg) (Dn : Dfn K mg "is_whole" ["value"] d_is_whole) : Cal P w K mg base CX0 (k+1) "is_whole" ["value"] (spP K CWhole) := by
  refine calP Dn sc_is_whole (fun ds q h => ?_) fun f cdv A outer s H E ds q hr h => ?_
  · obtain ⟨a, m, rfl, _⟩ := h
    rfl
  obtain ⟨a, m, rfl, ga, hq⟩ := h
  refine ⟨_, _, (ys_one (y_ret (y_and (y_isi bu (y_var 0) bu.int rfl) (y_one (y_notT (y_isi bu (y_var 0) bu.bool rfl)))))), ?_⟩
  norm_cast
  cases a <;> first | (cases m <;> simp [goodD] at ga; done) | (push_cast []; exact hq)
theorem ok_letter {k : Nat} (bu : Bu mg) (Dn : Dfn K mg "_is_letter" ["value"] d__is_letter) : Cal P w K mg base CX0 (k+1) "_is_letter" ["value"] (spP K CLetter) := by
  refine calP Dn sc__is_letter (fun ds q h => ?_) fun f cdv A outer s H E ds q hr h => ?_
  · obtain ⟨a, rfl, _⟩ := h
    rfl
  have hu := hu_of hr
  have hu64 := hr.units
  obtain ⟨a, rfl, ha, hq⟩ := h
  refine ⟨_, _, (ys_one (y_ret (y_and (y_isi bu (y_var 0) bu.str rfl) (y_and (y_cmp (op_eqY hu64) refO_eq (y_len bu (ya_cons (y_var 0) ya_nil)) y_int (nomark _)) (y_one (y_chain op_leY op_leY refO_ord refO_ord y_str (y_var 0) y_str)))))), ?_⟩
  have h1 : ∀ a ∈ (["a", "b", "c", "d", "z"] : List Str), a.length = 1 ∧ ltS a "a" = false ∧ ltS "z" a = false := by decide +kernel
  obtain ⟨e1, e2, e3⟩ := h1 a ha
  norm_cast
  push_cast [e1, e2, e3]
  exact hq
theorem ok_is_kind {k : Nat} (bu : Bu mg) (m_MOST_LABELS : KInt mg "MOST_LABELS" 3) (c_is_whole : Cal P w K mg base CX0 k "is_whole" ["value"] (spP K CWhole)) (c__is_letter : Cal P w K mg base CX0 k "_is_letter" ["value"] (spP K CLetter)) (Dn : Dfn K mg "is_kind" ["value"] d_is_kind) : Cal P w K mg base CX0 (k+1) "is_kind" ["value"] (spP K CIsKind) := by
  refine calP Dn sc_is_kind (fun ds q h => ?_) fun f cdv A outer s H E ds q hr h => ?_
  · obtain ⟨ways, labels, rfl, _⟩ := h
    rfl
  have hu := hu_of hr
  have hu64 := hr.units
  have hu65 := room65 hr
  obtain ⟨ways, labels, rfl, hw, hl, hq⟩ := h
  refine ⟨_, _, (ys_cons (y_ifS (yt_w (yw_or (yt_not (yt_tru (y_isi bu (y_var 0) bu.tuple rfl))) (yw_or1 (yt_cmp (op_neY hu64) refO_ne (y_len bu (ya_cons (y_var 0) ya_nil)) y_int (nomark _))))) (ys_one (y_ret y_bl)) ys_nil)
      (ys_cons (y_asg (y_var 0) (yg_tup (n := 2) rfl (ygs_cons (yg_name (i := 1) sc_is_kind.nd rfl) (ygs_cons (yg_name (i := 2) sc_is_kind.nd rfl) ygs_nil))))
      (ys_cons (y_ifS (yt_w (yw_or (yt_not (yt_tru (y_cal c_is_whole hr (ya_cons (y_var 1) ya_nil)))) (yw_or1 (yt_cmp (op_notInY hu65) refO_in (y_var 1) (y_tup (ya_cons y_int (ya_cons y_int ya_nil))) (by with_unfolding_all rfl))))) (ys_one (y_ret y_bl)) ys_nil)
      (ys_cons (y_ifS (yt_w (yw_or (yt_not (yt_tru (y_isi bu (y_var 2) bu.tuple rfl))) (yw_or1 (yt_not (yt_chain op_leY op_leY refO_ord refO_ord y_int (y_len bu (ya_cons (y_var 2) ya_nil)) (y_cst m_MOST_LABELS)))))) (ys_one (y_ret y_bl)) ys_nil)
      (ys_cons (y_ifS (yt_not (yt_tru (y_all bu rfl (ya_cons (y_lcD (own := [("label", 3)]) rfl sc_is_kind.nd (yi_seq (y_var 2)) (blkOk_by (own := [("label", 3)]) (N := ["value", "ways", "labels", "label"]) (sc := defScope d_is_kind) (by decide +kernel)) go_name (fun _ _ _ _ _ => (yg_name (i := 3) sc_is_kind.nd rfl)) (fun _ _ _ _ _ => yts_nil) (fun _ _ _ _ _ => (y_cal c__is_letter hr (ya_cons (y_var 3) ya_nil)))) ya_nil)))) (ys_one (y_ret y_bl)) ys_nil)
      (ys_one (y_ret (y_cmp (op_eqY hu64) refO_eq (y_listD bu (ya_cons (y_var 2) ya_nil)) (y_sortedSet bu rfl (y_var 2)) (nomark _))))))))), ?_⟩
  obtain ⟨k1, k2, k3, k4, k5, k6, k7⟩ := ls6_ok hl
  rw [ls6_kB hl] at hq
  unfold kindD
  norm_cast
  push_cast []
  refine ⟨.int ways, 1, rfl, rfl, ?_⟩
  push_cast [isI]
  have kq : ∀ b, labels.length ≤ 3 → b = decide (labels = srt6 labels) → q (.bl b) := fun b h e => by
    rw [decide_eq_true h, Bool.true_and] at hq
    rw [e]; exact hq
  split
  · rename_i h3
    have h3 : labels.length ≤ 3 := by
      have h3 : ((labels.length : Nat) : Int) ≤ 3 := h3
      omega
    push_cast []
    refine lc_mapG (ts := labels) .str (fun _ => .bl true) (by omega) (fun a ha acc k hl2 hk => ?_) ?_
    · push_cast []
      refine ⟨a, rfl, (k1 a ha).2.2, ?_⟩
      push_cast []
      exact hk
    · push_cast []
      rw [if_pos (by simp)]
      push_cast []
      refine ⟨labels, rfl, by omega, fun ys pm sd => ?_⟩
      have e := set_srt hl pm sd
      subst e
      have o1 := okD_of (str_clean (fun a ha => (k1 a ha).1) 0) (by omega)
      have o2 := okD_of (str_clean k7 0) (by omega)
      push_cast [eqv_strs]
      exact kq _ h3 rfl
  · rename_i h3
    have h3 : ¬ labels.length ≤ 3 := fun z => h3 (by show ((labels.length : Nat) : Int) ≤ 3; omega)
    rw [decide_eq_false h3, Bool.false_and] at hq
    push_cast []
    exact hq
theorem ok_check {k : Nat} (c_is_kind : Cal P w K mg base CX0 k "is_kind" ["value"] (spP K CIsKind)) (Dn : Dfn K mg "check_kind" ["kind"] d_check_kind) : Cal P w K mg base CX0 (k+1) "check_kind" ["kind"] (spP K CCheck) := by
  refine calP Dn sc_check_kind (fun ds q h => ?_) fun f cdv A outer s H E ds q hr h => ?_
  · obtain ⟨ways, labels, rfl, _⟩ := h
    rfl
  have hu := hu_of hr
  obtain ⟨ways, labels, rfl, hw, hl, hb, hq⟩ := h
  refine ⟨_, _, (ys_one (y_ifS (yt_not (yt_tru (y_cal c_is_kind hr (ya_cons (y_var 0) ya_nil)))) (ys_one y_never) ys_nil)), ?_⟩
  norm_cast
  push_cast []
  refine ⟨ways, labels, rfl, hw, hl, ?_⟩
  push_cast [hb]
  exact hq
end
end Y


set_option Elab.async false
set_option linter.all false
set_option maxRecDepth 100000
set_option maxHeartbeats 2000000
namespace Y
open PySem PySem.Spec PyProof.Rows L2 StX XS
local macro_rules | `(tactic| push_cast [$xs,*]) => `(tactic| repeat (first | (with_reducible first | refine g_c ?_ | (refine g_v ?_; first | refine g_var0 ?_ | refine g_var1 ?_ | refine g_var2 ?_ | refine g_var3 ?_ | refine g_var4 ?_ | refine g_var5 ?_ | refine g_var6 ?_ | refine g_var7 ?_ | refine g_var8 ?_ | refine g_var9 ?_ | refine g_var10 ?_ | refine g_var11 ?_ | refine g_var12 ?_ | refine g_var13 ?_ | refine g_var14 ?_ | refine g_var15 ?_)) | ((with_reducible refine lf_go fun Q hQ => ?_); simp only [FrzAt, sortSD, zipD, rslD, setSortD, finJ, slotsD, upg, ix_dicK, ix_dicT, ix_dicP, in_dicK, in_dicT, in_dicP, pkeyOf, seqD, revSeqD, spreadS, truD, slD, tyOk, appD, popD, extD, itemsOf, negD, putD, putC, sizeC, ty_non, ty_bl, ty_int, ty_str, ty_tup, ty_ktup, ty_lst, ty_pin, kitS, intO, addD, subD, mulD, modD, fdivD, shlD, shrD, bandD, borD, eq_ii, eq_ss, eq_bb, eq_tt, eq_ll, eq_tk, ordD, ltD, leD, gtD, geD, in_tup, in_ktup, in_lst, in_str, in_pin, inSq_str, inSq_int, isND, isNon, isBD, ix_tup, ix_ktup, ix_lst, ix_str, ix_pin, lookC, keyOf, keysOf, valS_nil, valS_cons, putS_nil, putS_cons, mergeS, kgetD, kixD, revD, wipeD, allD, len_tup, len_ktup, len_lst, len_str, len_pin, intD, absD, sumD, boolsD, tupD, listD, listP, dictC, lstOf, sqOf, frzC, allB, allI, allDk, ofString_inj, atI_0, atI_1, atI_2, atI_3, atI_1m1, atI_2m1, atI_2m2, atI_3m1, atI_3m2, atI_4m1, atI_4m2, cut_1, cut_2, cut_to1, cut_to2, cut_none, allD_map, List.map_cons, List.map_nil, List.length_cons, List.length_nil, List.length_append, List.length_map, List.length_set, List.replicate, List.nil_append, List.cons_append, List.append_nil, List.append_assoc, List.getElem?_cons_zero, List.getElem?_cons_succ, List.getElem?_nil, List.set_cons_zero, List.set_cons_succ, List.find?_cons, List.find?_nil, List.any_cons, List.any_nil, List.foldl_cons, List.foldl_nil, List.isEmpty_cons, List.isEmpty_nil, List.dropLast_concat, get_new, get_new1, get_new2, get_new3, set_new, set_new1, set_new2, set_new3, Option.map_some, Option.map_none, Option.isSome_some, Option.isSome_none, Option.some.injEq, Sum.inr.injEq, Sum.inl.injEq, reduceCtorEq, if_true, if_false, ite_true, ite_false, Bool.false_eq_true, Bool.not_true, Bool.not_false, Bool.false_xor, Bool.true_xor, Bool.xor_false, Bool.xor_true, decide_true, decide_false, decide_eq_true_eq, true_and, and_true, false_and, and_false, Bool.or_true, Bool.or_false, Bool.true_or, Bool.false_or, Bool.and_true, Bool.and_false, Bool.true_and, Bool.false_and, not_true_eq_false, not_false_eq_true, Nat.reduceAdd, Nat.reduceSub, Nat.reduceLeDiff, Nat.reduceLT, Nat.reduceEqDiff, Nat.reduceMul, Int.reduceLE, Int.reduceLT, Int.reduceEq, Int.reduceAdd, Int.reduceSub, Int.reduceNeg, Int.reduceMul, Int.reduceToNat, String.reduceEq, String.reduceBEq, reduceIte, Int.cast_ofNat_Int, Nat.zero_add, rng_0, rng_1, rng_2, rng_3, Nat.add_one_sub_one, List.reverse_nil, strsOf_nil, strsOf_cons, strsOf_map, intsOf_nil, intsOf_cons, intsOf_map, List.mem_cons, List.not_mem_nil, or_false, false_or, or_true, true_or, allB_map, allI_map, allB_mapf, allI_mapf, get_newm, allD_app, allD_mapf, isEmpty_snoc, $xs,*]; subst hQ; try dsimp only) | (with_reducible first | refine g_op ?_ | refine g_cons ?_ | refine g_nil ?_ | refine g_test ?_ | refine g_asB ?_ | refine g_true ?_ | refine g_false ?_ | refine g_dec ?_ | refine g_seq ?_ | refine g_un ?_ | refine g_b ?_ | refine g_nt ?_ | refine g_ifS ?_ | refine g_ret ?_ | refine g_next ?_ | (refine g_st ?_; first | refine g_set0 ?_ | refine g_set1 ?_ | refine g_set2 ?_ | refine g_set3 ?_ | refine g_set4 ?_ | refine g_set5 ?_ | refine g_set6 ?_ | refine g_set7 ?_ | refine g_set8 ?_ | refine g_set9 ?_ | refine g_set10 ?_ | refine g_set11 ?_ | refine g_set12 ?_ | refine g_set13 ?_ | refine g_set14 ?_ | refine g_set15 ?_) | (refine g_gn ?_; first | refine g_gn0 ?_ | refine g_gn1 ?_ | refine g_gn2 ?_ | refine g_gn3 ?_ | refine g_gn4 ?_ | refine g_gn5 ?_ | refine g_gn6 ?_ | refine g_gn7 ?_ | refine g_gn8 ?_ | refine g_gn9 ?_ | refine g_gn10 ?_ | refine g_gn11 ?_ | refine g_gn12 ?_ | refine g_gn13 ?_ | refine g_gn14 ?_ | refine g_gn15 ?_) | refine g_lf1 ?_ | refine g_lf2 ?_ | refine g_notTv ?_ | refine g_andT ?_ | refine g_orT ?_ | refine g_notT ?_ | refine g_mt ?_ | refine g_mt0 ?_ | refine g_drop ?_ | refine g_tup ?_ | refine g_lstD ?_ | refine g_lst ?_ | refine g_if ?_ | refine g_call ?_ | refine g_callG ?_ | refine g_callX ?_ | refine g_callGX ?_ | refine g_tru ?_ | refine g_andV ?_ | refine g_orV ?_ | refine g_notV ?_ | refine g_sl ?_ | refine g_noPart ?_ | refine g_part ?_ | refine g_partI ?_ | refine g_chain ?_ | refine g_putS ?_ | refine g_isi ?_ | refine g_star ?_ | refine g_for ?_ | refine g_lc ?_ | refine g_seqI ?_ | refine g_revI ?_ | refine g_rng1 ?_ | refine g_rng2 ?_ | refine g_gNil ?_ | refine g_gCons ?_ | refine g_gTup2 ?_ | refine g_gTup3 ?_ | refine g_gTup4 ?_ | refine g_yes ?_ | refine g_retN ?_ | refine g_break ?_ | refine g_cont ?_ | refine g_finD ?_ | refine g_finD2 ?_ | refine g_finP ?_ | refine g_lcB ?_ | refine g_lcNil ?_ | refine g_lcCons ?_ | refine g_forNil ?_ | refine g_forCons ?_ | refine g_rtP ?_ | refine g_rtPin ?_ | refine g_disp ?_ | refine g_pairs0 ?_ | refine g_pairsS ?_ | refine g_pairsI ?_ | refine g_newK ?_ | refine g_newT ?_ | refine g_newP ?_ | refine g_zipI ?_ | refine g_revrng ?_ | refine g_lcN ?_ | refine g_mid ?_ | refine g_elt ?_ | refine g_lcTNil ?_ | refine g_lcTCons ?_ | refine g_dc ?_ | refine g_dcNil ?_ | refine g_dcCons ?_ | refine g_lam ?_ | refine g_callB ?_ | refine g_frz ?_ | refine g_loc rfl ?_ | refine g_locC rfl ?_) | ((with_reducible refine g_pos ?_ ?_); · first | assumption | rfl | omega) | ((with_reducible refine g_neg ?_ ?_); · first | assumption | omega | decide) | ((with_reducible refine And.intro ?_ ?_); · first | trivial | assumption | omega | exact Or.inr (by decide) | (dsimp only; omega) | (simp only [List.length_append, List.length_cons, List.length_nil, List.length_map, List.length_reverse]; omega) | (simp; done))))
local macro_rules | `(tactic| norm_cast) => `(tactic| ((first | with_reducible refine g_endsG ?_ | with_reducible refine g_endsP ?_); simp only [start_eq, List.map_cons, List.map_nil, List.replicate, List.length_cons, List.length_nil, Nat.reduceAdd, Nat.reduceSub, Nat.zero_add, List.cons_append, List.nil_append]))
theorem for_l {β : Type} {ts : List β} (vd : β → D) {gd : TGD} {bd : TSD} {nx bk ct : Env → Sto → Prop} {rt : S → Sto → Prop} {x : XD} {P : Sto → Prop} {ρ : Env} {ω : Sto} (I : List β → Env → Sto → Prop) (h0 : I [] ρ ω)
    (hs : ∀ t done ρ ω (nx' : Env → Sto → Prop), t ∈ ts → (done ++ [t]) <+: ts → I done ρ ω → (∀ ρ' ω', P ω' → I (done ++ [t]) ρ' ω' → nx' ρ' ω') → gd (.d (vd t)) ρ ω (fun ρ1 ω1 => bd ⟨nx', rt, nx, nx', x⟩ ρ1 ω1)) (he : ∀ ρ ω, I ts ρ ω → nx ρ ω) : forR gd bd ⟨nx, rt, bk, ct, x⟩ P ((ts.map vd).map S.d) ρ ω := by
  refine for_ind (fun is ρ ω => ∃ done rest, done ++ rest = ts ∧ is = (rest.map vd).map S.d ∧ I done ρ ω) ⟨[], ts, rfl, rfl, h0⟩ (fun s r ρ ω nx' h hn => ?_) (fun ρ ω h => ?_)
  · obtain ⟨done, rest, e, e2, hi⟩ := h
    cases rest with
    | nil => simp at e2
    | cons t rest =>
      rw [List.map_cons, List.map_cons] at e2
      obtain ⟨rfl, rfl⟩ := List.cons.inj e2
      have e3 : (done ++ [t]) ++ rest = ts := by rw [← e]; simp
      exact hs t done ρ ω nx' (by rw [← e]; simp) ⟨rest, e3⟩ hi fun ρ' ω' hP hi' => hn _ _ hP ⟨done ++ [t], rest, e3, rfl, hi'⟩
  · obtain ⟨done, rest, e, e2, hi⟩ := h
    cases rest with
    | cons t rest => simp at e2
    | nil =>
      rw [List.append_nil] at e
      subst e
      exact he _ _ hi
def bitsL : Nat → List (List Int)
  | 0 => [[]]
  | n + 1 => (bitsL n).flatMap fun b => [b ++ [0], b ++ [1]]
theorem bits_len : ∀ n, (bitsL n).length = 2 ^ n
  | 0 => rfl
  | n + 1 => by
    rw [bitsL, List.length_flatMap]
    have : ((bitsL n).map fun b => ([b ++ [0], b ++ [1]] : List (List Int)).length) = (bitsL n).map fun _ => 2 := rfl
    rw [this, List.map_const', List.sum_replicate_nat, bits_len n]
    omega
theorem bits_mem : ∀ n, ∀ b ∈ bitsL n, b.length = n
  | 0, b, h => by simp [bitsL] at h; simp [h]
  | n + 1, b, h => by
    rw [bitsL, List.mem_flatMap] at h
    obtain ⟨c, hc, h⟩ := h
    have := bits_mem n c hc
    simp at h
    rcases h with rfl | rfl <;> simp [this]
def signD (a : Str) (b : List Int) : D := .tup [.str a, pathD b]
def signsL (labels : List Str) (n : Nat) : List D := labels.flatMap fun a => (bitsL n).map (signD a)
theorem signs_len (labels : List Str) (n : Nat) : (signsL labels n).length = labels.length * 2 ^ n := by
  unfold signsL
  rw [List.length_flatMap]
  simp only [List.length_map, bits_len]
  rw [List.map_const', List.sum_replicate_nat]
theorem pow3 {n : Nat} (h : n ≤ 3) : 2 ^ n ≤ 8 := by
  have : n = 0 ∨ n = 1 ∨ n = 2 ∨ n = 3 := by omega
  rcases this with rfl | rfl | rfl | rfl <;> decide
theorem sc_signs : FnScope ["kind", "tracks", "marks", "_", "some", "one", "label"] ["kind", "tracks"] (defScope d_signs) := ⟨rfl, rfl, rfl, by decide +kernel, rfl, by decide +kernel, by decide +kernel⟩
theorem sc__law_signs : FnScope ["kind", "tracks", "marks", "k", "longer", "one", "found", "label"] ["kind", "tracks"] (defScope d__law_signs) := ⟨rfl, rfl, rfl, by decide +kernel, rfl, by decide +kernel, by decide +kernel⟩
def CSigns : CP := fun ds q => ∃ (ways : Int) (labels : List Str) (n : Nat), ds = [kindD ways labels, .int (n : Nat)] ∧ (ways = 1 ∨ ways = 2) ∧ labels ∈ LS6 ∧ kB labels = true ∧ n ≤ 3 ∧ q (.lst (signsL labels n))
def CLSigns : CP := fun ds q => ∃ (ways : Int) (labels : List Str) (n : Nat), ds = [kindD ways labels, .int (n : Nat)] ∧ labels.length ≤ 4 ∧ n ≤ 3 ∧ q (.lst (signsL labels n))
section
variable {P : Program} {w : World} [Tb w] {K : PySem.W.Frag} {mg : Str → Option Value} {base : Heap}
theorem ok_signs {k : Nat} (bu : Bu mg) (c_check_kind : Cal P w K mg base CX0 k "check_kind" ["kind"] (spP K CCheck)) (Dn : Dfn K mg "signs" ["kind", "tracks"] d_signs) : Cal P w K mg base CX0 (k+1) "signs" ["kind", "tracks"] (spP K CSigns) := by
  refine calP Dn sc_signs (fun ds q h => ?_) fun f cdv A outer s H E ds q hr h => ?_
  · obtain ⟨ways, labels, n, rfl, _⟩ := h
    rfl
  have hu := hu_of hr
  have hpass := @PassesOwn.never
  obtain ⟨ways, labels, n, rfl, hw, hl, hb, hn, hq⟩ := h
  have hll := (ls6_ok hl).2.2.1
  refine ⟨_, _, (ys_cons (y_expr (y_cal c_check_kind hr (ya_cons (y_var 0) ya_nil)))
      (ys_cons (y_set (i := 2) sc_signs.nd rfl (y_lstD (ya_cons (y_tup ya_nil) ya_nil)))
      (ys_cons (y_for hpass rfl (yi_range1 bu.range (ya_cons (y_var 1) ya_nil)) (yg_name (i := 3) sc_signs.nd rfl) (ys_one (y_set (i := 2) sc_signs.nd rfl (y_lcN finD_ok (own := [("some", 4), ("one", 5)]) rfl sc_signs.nd (yi_seq (y_var 2)) (blkOk_by (own := [("some", 4), ("one", 5)]) (N := ["kind", "tracks", "marks", "_", "some", "one", "label"]) (sc := defScope d_signs) (by decide +kernel)) go_name (fun _ _ _ _ _ => (yg_name (i := 4) sc_signs.nd rfl)) (fun _ _ _ _ _ => yts_nil) (fun _ _ _ _ _ => (yb_mid (ws := [5]) (yi_seq (y_tup (ya_cons y_int (ya_cons y_int ya_nil)))) go_name (yg_name (i := 5) sc_signs.nd rfl) yts_nil (yb_last (y_add (y_var 4) (y_tup (ya_cons (y_var 5) ya_nil))))))))))
      (ys_one (y_ret (y_lcN finD_ok (own := [("label", 6), ("some", 4)]) rfl sc_signs.nd (yi_seq (y_ix hu (y_var 0) y_int (fun _ _ => rfl))) (blkOk_by (own := [("label", 6), ("some", 4)]) (N := ["kind", "tracks", "marks", "_", "some", "one", "label"]) (sc := defScope d_signs) (by decide +kernel)) go_name (fun _ _ _ _ _ => (yg_name (i := 6) sc_signs.nd rfl)) (fun _ _ _ _ _ => yts_nil) (fun _ _ _ _ _ => (yb_mid (ws := [4]) (yi_seq (y_var 2)) go_name (yg_name (i := 4) sc_signs.nd rfl) yts_nil (yb_last (y_tup (ya_cons (y_var 6) (ya_cons (y_var 4) ya_nil)))))))))))), ?_⟩
  have hn62 : int62 (n : Nat) := ⟨by omega, by omega⟩
  norm_cast
  push_cast []
  refine ⟨ways, labels, rfl, hw, hl, hb, ?_⟩
  push_cast []
  refine for_ind (fun is ρ ω => ∃ (m : Nat) (y : Option S), is.length + m = n ∧ ρ = [some (.d (kindD ways labels)), some (.d (.int (n : Nat))), some (.d (.lst ((bitsL m).map pathD))), y, none, none, none] ∧ ω = []) ⟨0, none, by simp [rngS], rfl, rfl⟩ (fun s r ρ ω nx h hnx => ?_) (fun ρ ω h => ?_)
  · obtain ⟨m, y, e, rfl, rfl⟩ := h
    rw [List.length_cons] at e
    push_cast []
    have hb2 := bits_len m
    have hp := pow3 (n := m) (by omega)
    refine lcT_flat (ts := bitsL m) pathD (fun b => [pathD (b ++ [0]), pathD (b ++ [1])]) ?_ (fun b hbm acc k hl2 hk => ?_) ?_
    · rw [List.length_flatMap]
      have : ((bitsL m).map fun b => ([pathD (b ++ [0]), pathD (b ++ [1])] : List D).length) = (bitsL m).map fun _ => 2 := rfl
      rw [this, List.map_const', List.sum_replicate_nat, hb2]
      simp only [List.length_nil]
      omega
    · have hbl := bits_mem m b hbm
      simp only [List.length_cons, List.length_nil] at hl2
      unfold pathD at hk ⊢
      push_cast []
      simpa using hk
    · have e2 : ((bitsL m).flatMap fun b => [pathD (b ++ [0]), pathD (b ++ [1])]) = (bitsL (m + 1)).map pathD := by
        rw [bitsL, List.map_flatMap]
        rfl
      rw [List.nil_append, e2]
      push_cast []
      exact hnx _ _ trivial ⟨m + 1, _, by omega, rfl, rfl⟩
  · obtain ⟨m, y, e, rfl, rfl⟩ := h
    rw [List.length_nil, Nat.zero_add] at e
    subst e
    unfold kindD
    push_cast []
    have hb2 := bits_len m
    have hp := pow3 hn
    refine lcT_flat (ts := labels) D.str (fun a => (bitsL m).map (signD a)) ?_ (fun a ha acc k hl2 hk => ?_) ?_
    · have := signs_len labels m
      unfold signsL at this
      rw [this, List.length_nil, Nat.zero_add]
      have : labels.length * 2 ^ m ≤ 4 * 8 := Nat.mul_le_mul hll hp
      omega
    · rw [List.length_map] at hl2
      push_cast []
      refine lcT_flat (ts := bitsL m) pathD (fun b => [signD a b]) ?_ (fun b hbm acc2 k2 hl3 hk2 => ?_) ?_
      · rw [List.length_flatMap]
        have : ((bitsL m).map fun b => ([signD a b] : List D).length) = (bitsL m).map fun _ => 1 := rfl
        rw [this, List.map_const', List.sum_replicate_nat]
        omega
      · simp only [List.length_cons, List.length_nil] at hl3
        unfold signD at hk2
        push_cast []
        simpa using hk2
      · have e2 : ((bitsL m).flatMap fun b => [signD a b]) = (bitsL m).map (signD a) := by
          induction bitsL m with
          | nil => rfl
          | cons b l ih => rw [List.flatMap_cons, ih]; rfl
        rw [e2]
        exact ⟨trivial, hk⟩
    · rw [List.nil_append]
      push_cast []
      exact hq
theorem ok_lsigns {k : Nat} (bu : Bu mg) (Dn : Dfn K mg "_law_signs" ["kind", "tracks"] d__law_signs) : Cal P w K mg base CX0 (k+1) "_law_signs" ["kind", "tracks"] (spP K CLSigns) := by
  refine calP Dn sc__law_signs (fun ds q h => ?_) fun f cdv A outer s H E ds q hr h => ?_
  · obtain ⟨ways, labels, n, rfl, _⟩ := h
    rfl
  have hu := hu_of hr
  have hpass := @PassesOwn.never
  obtain ⟨ways, labels, n, rfl, hll, hn, hq⟩ := h
  refine ⟨_, _, (ys_cons (y_set (i := 2) sc__law_signs.nd rfl (y_lstD (ya_cons (y_tup ya_nil) ya_nil)))
      (ys_cons (y_for hpass rfl (yi_range1 bu.range (ya_cons (y_var 1) ya_nil)) (yg_name (i := 3) sc__law_signs.nd rfl) (ys_cons (y_set (i := 4) sc__law_signs.nd rfl (y_lstD ya_nil))
        (ys_cons (y_for hpass rfl (yi_seq (y_var 2)) (yg_name (i := 5) sc__law_signs.nd rfl) (ys_one (y_set (i := 4) sc__law_signs.nd rfl (y_add (y_var 4) (y_lstD (ya_cons (y_add (y_var 5) (y_tup (ya_cons y_int ya_nil))) (ya_cons (y_add (y_var 5) (y_tup (ya_cons y_int ya_nil))) ya_nil)))))))
        (ys_one (y_set (i := 2) sc__law_signs.nd rfl (y_var 4))))))
      (ys_cons (y_set (i := 6) sc__law_signs.nd rfl (y_lstD ya_nil))
      (ys_cons (y_for hpass rfl (yi_seq (y_ix hu (y_var 0) y_int (fun _ _ => rfl))) (yg_name (i := 7) sc__law_signs.nd rfl) (ys_one (y_set (i := 6) sc__law_signs.nd rfl (y_add (y_var 6) (y_lcD (own := [("one", 5)]) rfl sc__law_signs.nd (yi_seq (y_var 2)) (blkOk_by (own := [("one", 5)]) (N := ["kind", "tracks", "marks", "k", "longer", "one", "found", "label"]) (sc := defScope d__law_signs) (by decide +kernel)) go_name (fun _ _ _ _ _ => (yg_name (i := 5) sc__law_signs.nd rfl)) (fun _ _ _ _ _ => yts_nil) (fun _ _ _ _ _ => (y_tup (ya_cons (y_var 7) (ya_cons (y_var 5) ya_nil)))))))))
      (ys_one (y_ret (y_var 6))))))), ?_⟩
  have hn62 : int62 (n : Nat) := ⟨by omega, by omega⟩
  norm_cast
  push_cast []
  refine for_ind (fun is ρ ω => ∃ (m : Nat) (y z v : Option S), is.length + m = n ∧ ρ = [some (.d (kindD ways labels)), some (.d (.int (n : Nat))), some (.d (.lst ((bitsL m).map pathD))), y, z, v, none, none] ∧ ω = []) ⟨0, none, none, none, by simp [rngS], rfl, rfl⟩ (fun s r ρ ω nx h hnx => ?_) (fun ρ ω h => ?_)
  · obtain ⟨m, y, z, v, e, rfl, rfl⟩ := h
    rw [List.length_cons] at e
    have hb2 := bits_len m
    have hp := pow3 (n := m) (by omega)
    push_cast []
    refine for_l (ts := bitsL m) pathD (fun done ρ ω => ∃ z, ρ = [some (S.d (kindD ways labels)), some (S.d (D.int ↑n)), some (S.d (D.lst (List.map pathD (bitsL m)))), some s, some (S.d (D.lst ((done.flatMap fun b => [b ++ [0], b ++ [1]]).map pathD))), z, none, none] ∧ ω = []) ⟨_, rfl, rfl⟩ (fun b done ρ ω nx' hb hpre h hn => ?_) (fun ρ ω h => ?_)
    · obtain ⟨z, rfl, rfl⟩ := h
      have hbl := bits_mem m b hb
      have hdl := hpre.length_le
      rw [List.length_append, List.length_singleton] at hdl
      have hfl : ((done.flatMap fun b => [b ++ [0], b ++ [1]]).map pathD).length = done.length * 2 := by
        rw [List.length_map, List.length_flatMap]
        have : (done.map fun b => ([b ++ [0], b ++ [1]] : List (List Int)).length) = done.map fun _ => 2 := rfl
        rw [this, List.map_const', List.sum_replicate_nat]
      have hfl2 : (done.flatMap fun b => [b ++ [0], b ++ [1]]).length = done.length * 2 := by rw [← hfl, List.length_map]
      unfold pathD
      push_cast []
      refine hn _ _ trivial ⟨some (S.d (D.tup (List.map D.int b))), ?_, rfl⟩
      unfold pathD
      simp
    · obtain ⟨z, rfl, rfl⟩ := h
      push_cast []
      exact hnx _ _ trivial ⟨m + 1, _, _, _, by omega, rfl, rfl⟩
  · obtain ⟨m, y, z, v, e, rfl, rfl⟩ := h
    rw [List.length_nil, Nat.zero_add] at e
    subst e
    unfold kindD
    push_cast []
    have hb2 := bits_len m
    have hp := pow3 hn
    refine for_l (ts := labels) D.str (fun done ρ ω => ∃ z2, ρ = [some (S.d (D.tup [D.int ways, D.tup (List.map D.str labels)])), some (S.d (D.int ↑m)), some (S.d (D.lst (List.map pathD (bitsL m)))), y, z, v, some (S.d (D.lst (signsL done m))), z2] ∧ ω = []) ⟨none, rfl, rfl⟩ (fun a done ρ ω nx' ha hpre h hnx => ?_) (fun ρ ω h => ?_)
    · obtain ⟨z2, rfl, rfl⟩ := h
      have hdl := hpre.length_le
      rw [List.length_append, List.length_singleton] at hdl
      have hsl := signs_len done m
      have hle : done.length * 2 ^ m ≤ 4 * 8 := Nat.mul_le_mul (by omega) hp
      push_cast []
      refine lc_mapG (ts := bitsL m) pathD (signD a) (by omega) (fun b hbm acc k hl2 hk => ?_) ?_
      · unfold signD at hk
        push_cast []
        exact hk
      · push_cast []
        refine hnx _ _ trivial ⟨some (S.d (D.str a)), ?_, rfl⟩
        unfold signsL
        simp
    · obtain ⟨z2, rfl, rfl⟩ := h
      push_cast []
      exact hq
end
end Y


set_option Elab.async false
set_option linter.all false
set_option maxRecDepth 100000
set_option maxHeartbeats 2000000
namespace Y
open PySem PySem.Spec PyProof.Rows L2 StX XS
local macro_rules | `(tactic| push_cast [$xs,*]) => `(tactic| repeat (first | (with_reducible first | refine g_c ?_ | (refine g_v ?_; first | refine g_var0 ?_ | refine g_var1 ?_ | refine g_var2 ?_ | refine g_var3 ?_ | refine g_var4 ?_ | refine g_var5 ?_ | refine g_var6 ?_ | refine g_var7 ?_ | refine g_var8 ?_ | refine g_var9 ?_ | refine g_var10 ?_ | refine g_var11 ?_ | refine g_var12 ?_ | refine g_var13 ?_ | refine g_var14 ?_ | refine g_var15 ?_)) | ((with_reducible refine lf_go fun Q hQ => ?_); simp only [FrzAt, sortSD, zipD, rslD, setSortD, finJ, slotsD, upg, ix_dicK, ix_dicT, ix_dicP, in_dicK, in_dicT, in_dicP, pkeyOf, seqD, revSeqD, spreadS, truD, slD, tyOk, appD, popD, extD, itemsOf, negD, putD, putC, sizeC, ty_non, ty_bl, ty_int, ty_str, ty_tup, ty_ktup, ty_lst, ty_pin, kitS, intO, addD, subD, mulD, modD, fdivD, shlD, shrD, bandD, borD, eq_ii, eq_ss, eq_bb, eq_tt, eq_ll, eq_tk, ordD, ltD, leD, gtD, geD, in_tup, in_ktup, in_lst, in_str, in_pin, inSq_str, inSq_int, isND, isNon, isBD, ix_tup, ix_ktup, ix_lst, ix_str, ix_pin, lookC, keyOf, keysOf, valS_nil, valS_cons, putS_nil, putS_cons, mergeS, kgetD, kixD, revD, wipeD, allD, len_tup, len_ktup, len_lst, len_str, len_pin, intD, absD, sumD, boolsD, tupD, listD, listP, dictC, lstOf, sqOf, frzC, allB, allI, allDk, ofString_inj, atI_0, atI_1, atI_2, atI_3, atI_1m1, atI_2m1, atI_2m2, atI_3m1, atI_3m2, atI_4m1, atI_4m2, cut_1, cut_2, cut_to1, cut_to2, cut_none, allD_map, List.map_cons, List.map_nil, List.length_cons, List.length_nil, List.length_append, List.length_map, List.length_set, List.replicate, List.nil_append, List.cons_append, List.append_nil, List.append_assoc, List.getElem?_cons_zero, List.getElem?_cons_succ, List.getElem?_nil, List.set_cons_zero, List.set_cons_succ, List.find?_cons, List.find?_nil, List.any_cons, List.any_nil, List.foldl_cons, List.foldl_nil, List.isEmpty_cons, List.isEmpty_nil, List.dropLast_concat, get_new, get_new1, get_new2, get_new3, set_new, set_new1, set_new2, set_new3, Option.map_some, Option.map_none, Option.isSome_some, Option.isSome_none, Option.some.injEq, Sum.inr.injEq, Sum.inl.injEq, reduceCtorEq, if_true, if_false, ite_true, ite_false, Bool.false_eq_true, Bool.not_true, Bool.not_false, Bool.false_xor, Bool.true_xor, Bool.xor_false, Bool.xor_true, decide_true, decide_false, decide_eq_true_eq, true_and, and_true, false_and, and_false, Bool.or_true, Bool.or_false, Bool.true_or, Bool.false_or, Bool.and_true, Bool.and_false, Bool.true_and, Bool.false_and, not_true_eq_false, not_false_eq_true, Nat.reduceAdd, Nat.reduceSub, Nat.reduceLeDiff, Nat.reduceLT, Nat.reduceEqDiff, Nat.reduceMul, Int.reduceLE, Int.reduceLT, Int.reduceEq, Int.reduceAdd, Int.reduceSub, Int.reduceNeg, Int.reduceMul, Int.reduceToNat, String.reduceEq, String.reduceBEq, reduceIte, Int.cast_ofNat_Int, Nat.zero_add, rng_0, rng_1, rng_2, rng_3, Nat.add_one_sub_one, List.reverse_nil, strsOf_nil, strsOf_cons, strsOf_map, intsOf_nil, intsOf_cons, intsOf_map, List.mem_cons, List.not_mem_nil, or_false, false_or, or_true, true_or, allB_map, allI_map, allB_mapf, allI_mapf, get_newm, allD_app, allD_mapf, isEmpty_snoc, $xs,*]; subst hQ; try dsimp only) | (with_reducible first | refine g_op ?_ | refine g_cons ?_ | refine g_nil ?_ | refine g_test ?_ | refine g_asB ?_ | refine g_true ?_ | refine g_false ?_ | refine g_dec ?_ | refine g_seq ?_ | refine g_un ?_ | refine g_b ?_ | refine g_nt ?_ | refine g_ifS ?_ | refine g_ret ?_ | refine g_next ?_ | (refine g_st ?_; first | refine g_set0 ?_ | refine g_set1 ?_ | refine g_set2 ?_ | refine g_set3 ?_ | refine g_set4 ?_ | refine g_set5 ?_ | refine g_set6 ?_ | refine g_set7 ?_ | refine g_set8 ?_ | refine g_set9 ?_ | refine g_set10 ?_ | refine g_set11 ?_ | refine g_set12 ?_ | refine g_set13 ?_ | refine g_set14 ?_ | refine g_set15 ?_) | (refine g_gn ?_; first | refine g_gn0 ?_ | refine g_gn1 ?_ | refine g_gn2 ?_ | refine g_gn3 ?_ | refine g_gn4 ?_ | refine g_gn5 ?_ | refine g_gn6 ?_ | refine g_gn7 ?_ | refine g_gn8 ?_ | refine g_gn9 ?_ | refine g_gn10 ?_ | refine g_gn11 ?_ | refine g_gn12 ?_ | refine g_gn13 ?_ | refine g_gn14 ?_ | refine g_gn15 ?_) | refine g_lf1 ?_ | refine g_lf2 ?_ | refine g_notTv ?_ | refine g_andT ?_ | refine g_orT ?_ | refine g_notT ?_ | refine g_mt ?_ | refine g_mt0 ?_ | refine g_drop ?_ | refine g_tup ?_ | refine g_lstD ?_ | refine g_lst ?_ | refine g_if ?_ | refine g_call ?_ | refine g_callG ?_ | refine g_callX ?_ | refine g_callGX ?_ | refine g_tru ?_ | refine g_andV ?_ | refine g_orV ?_ | refine g_notV ?_ | refine g_sl ?_ | refine g_noPart ?_ | refine g_part ?_ | refine g_partI ?_ | refine g_chain ?_ | refine g_putS ?_ | refine g_isi ?_ | refine g_star ?_ | refine g_for ?_ | refine g_lc ?_ | refine g_seqI ?_ | refine g_revI ?_ | refine g_rng1 ?_ | refine g_rng2 ?_ | refine g_gNil ?_ | refine g_gCons ?_ | refine g_gTup2 ?_ | refine g_gTup3 ?_ | refine g_gTup4 ?_ | refine g_yes ?_ | refine g_retN ?_ | refine g_break ?_ | refine g_cont ?_ | refine g_finD ?_ | refine g_finD2 ?_ | refine g_finP ?_ | refine g_lcB ?_ | refine g_lcNil ?_ | refine g_lcCons ?_ | refine g_forNil ?_ | refine g_forCons ?_ | refine g_rtP ?_ | refine g_rtPin ?_ | refine g_disp ?_ | refine g_pairs0 ?_ | refine g_pairsS ?_ | refine g_pairsI ?_ | refine g_newK ?_ | refine g_newT ?_ | refine g_newP ?_ | refine g_zipI ?_ | refine g_revrng ?_ | refine g_lcN ?_ | refine g_mid ?_ | refine g_elt ?_ | refine g_lcTNil ?_ | refine g_lcTCons ?_ | refine g_dc ?_ | refine g_dcNil ?_ | refine g_dcCons ?_ | refine g_lam ?_ | refine g_callB ?_ | refine g_frz ?_ | refine g_loc rfl ?_ | refine g_locC rfl ?_) | ((with_reducible refine g_pos ?_ ?_); · first | assumption | rfl | omega) | ((with_reducible refine g_neg ?_ ?_); · first | assumption | omega | decide) | ((with_reducible refine And.intro ?_ ?_); · first | trivial | assumption | omega | exact Or.inr (by decide) | (dsimp only; omega) | (simp only [List.length_append, List.length_cons, List.length_nil, List.length_map, List.length_reverse]; omega) | (simp; done))))
local macro_rules | `(tactic| norm_cast) => `(tactic| ((first | with_reducible refine g_endsG ?_ | with_reducible refine g_endsP ?_); simp only [start_eq, List.map_cons, List.map_nil, List.replicate, List.length_cons, List.length_nil, Nat.reduceAdd, Nat.reduceSub, Nat.zero_add, List.cons_append, List.nil_append]))
theorem lc_mapA {it : TID} {gd : TGD} {td : TTD} {ed : TD} {P : Sto → Prop} {x : XD} {ρ : Env} {ω : Sto} {fin : List S → Sto → Prop} {β : Type} {ts : List β} (vd F : β → D) (hl : ts.length < 1000000) (hs : ∀ t ∈ ts, ∀ (acc : List S) (k : List S → Sto → Prop) (ω : Sto), acc.length < 1000000 → (∀ ω', k (acc ++ [.d (F t)]) ω') → gd (.d (vd t)) ρ ω (fun ρ1 ω1 => td ρ1 ω1 (fun b ω2 => if b = true then ed ρ1 ω2 (fun y ω3 => acc.length < 1000000 ∧ P ω3 ∧ k (acc ++ [y]) ω3) x else P ω2 ∧ k acc ω2) x)) (he : ∀ ω', fin ((ts.map F).map S.d) ω') : lcR gd td ed ρ P x fin ((ts.map vd).map S.d) [] ω := by
  refine lc_ind (fun is acc ω' => ∃ done rest, done ++ rest = ts ∧ is = (rest.map vd).map S.d ∧ acc = (done.map F).map S.d) ⟨[], ts, rfl, rfl, rfl⟩ (fun s r acc ω' k h hk => ?_) (fun acc ω' h => ?_)
  · obtain ⟨done, rest, e, e2, rfl⟩ := h
    cases rest with
    | nil => cases e2
    | cons t rest =>
      rw [List.map_cons, List.map_cons] at e2
      obtain ⟨rfl, rfl⟩ := List.cons.inj e2
      have e3 : (done ++ [t]) ++ rest = ts := by rw [← e]; simp
      have h2 := congrArg List.length e
      rw [List.length_append] at h2
      refine hs t (by rw [← e]; simp) _ k ω' (by rw [List.length_map, List.length_map]; omega) fun ω2 => hk _ _ ⟨done ++ [t], rest, e3, rfl, by simp⟩
  · obtain ⟨done, rest, e, e2, rfl⟩ := h
    cases rest with
    | cons t rest => cases e2
    | nil =>
      rw [List.append_nil] at e
      subst e
      exact he _
/-! ### mark -/
def pkey (p : List Int) : List Key := p.map Sum.inl
theorem pkey_inj {p r : List Int} (h : pkey p = pkey r) : p = r := by
  induction p generalizing r with
  | nil => cases r with | nil => rfl | cons => simp [pkey] at h
  | cons a p ih =>
    cases r with
    | nil => simp [pkey] at h
    | cons b r =>
      simp only [pkey, List.map_cons, List.cons.injEq, Sum.inl.injEq] at h
      rw [h.1, ih h.2]
theorem keysOf_path : ∀ {p : List Int}, keysOf (p.map .int) = some (pkey p)
  | [] => rfl
  | a :: p => by rw [List.map_cons, keysOf, keyOf, keysOf_path]; rfl
/-- the keys of a track, each once -/
def oncePs (ps : List (List Int)) : List (List Int) := ps.foldl (fun l p => if p ∈ l then l else l ++ [p]) []
theorem oncePs_mem_gen (p : List Int) : ∀ (ps l : List (List Int)), p ∈ ps.foldl (fun l p => if p ∈ l then l else l ++ [p]) l ↔ p ∈ l ∨ p ∈ ps
  | [], l => by simp
  | a :: ps, l => by
    rw [List.foldl_cons, oncePs_mem_gen p ps]
    by_cases h : a ∈ l
    · rw [if_pos h]
      constructor
      · rintro (h2 | h2)
        · exact .inl h2
        · exact .inr (by simp [h2])
      · rintro (h2 | h2)
        · exact .inl h2
        · rcases List.mem_cons.mp h2 with rfl | h2
          · exact .inl h
          · exact .inr h2
    · rw [if_neg h]
      simp only [List.mem_append, List.mem_cons, List.not_mem_nil, or_false, or_assoc]
theorem oncePs_mem {p : List Int} {ps : List (List Int)} : p ∈ oncePs ps ↔ p ∈ ps := by
  unfold oncePs
  rw [oncePs_mem_gen]
  simp
theorem oncePs_len (ps : List (List Int)) : (oncePs ps).length ≤ ps.length := by
  unfold oncePs
  have : ∀ (ps l : List (List Int)), (ps.foldl (fun l p => if p ∈ l then l else l ++ [p]) l).length ≤ l.length + ps.length := fun ps => by
    induction ps with
    | nil => simp
    | cons a ps ih =>
      intro l
      rw [List.foldl_cons]
      refine Nat.le_trans (ih _) ?_
      split <;> simp <;> omega
  simpa using this ps []
def kvT (l : List (List Int)) : List (List Key × S) := l.map fun p => (pkey p, .d (.bl true))
theorem kvT_put {l : List (List Int)} {p : List Int} : putS (kvT l) (pkey p) (.d (.bl true)) = kvT (if p ∈ l then l else l ++ [p]) := by
  unfold putS kvT
  have ha : ((l.map fun p => (pkey p, S.d (.bl true))).any fun kv => decide (kv.1 = pkey p)) = decide (p ∈ l) := by
    rw [List.any_map]
    induction l with
    | nil => simp
    | cons a l ih =>
      rw [List.any_cons, ih]
      by_cases h : a = p
      · simp [h]
      · have h1 : pkey a ≠ pkey p := fun z => h (pkey_inj z)
        simp [h1, Ne.symm h, h]
  rw [ha]
  by_cases h : p ∈ l
  · rw [if_pos (by simpa using h), if_pos h, List.map_map]
    refine List.map_congr_left fun a _ => ?_
    simp only [Function.comp_apply]
    split
    · rename_i e
      rw [e]
    · rfl
  · rw [if_neg (by simpa using h), if_neg h, List.map_append]
    rfl
def trackD (ps : List (List Int)) : D := .dicT ((oncePs ps).map pkey) ((oncePs ps).map fun _ => .bl true)
theorem val_track {p : List Int} : ∀ {l : List (List Int)}, (valD (l.map pkey) (l.map fun _ => D.bl true) (pkey p)).isSome = decide (p ∈ l)
  | [] => rfl
  | a :: l => by
    rw [List.map_cons, List.map_cons, valD]
    by_cases h : a = p
    · simp [h]
    · have h1 : pkey a ≠ pkey p := fun z => h (pkey_inj z)
      rw [if_neg h1, val_track]
      simp [Ne.symm h]
/-- the bits of a path -/
def bitsOf (sets : List (List (List Int))) (p : List Int) : List Int := sets.map fun c => if p ∈ c then 1 else 0
def setsD (sets : List (List (List Int))) : D := .lst (sets.map fun c => .tup (c.map pathD))
def Sh.mk (sets : List (List (List Int))) : Sh → List Int → Mt
  | .e, _ => .e
  | .w a c, p => .w (signD a (bitsOf sets p)) (c.mk sets (p ++ [0]))
  | .t a l r, p => .t (signD a (bitsOf sets p)) (l.mk sets (p ++ [0])) (r.mk sets (p ++ [1]))
theorem zipP_app {a b c d : List D} (h : a.length = c.length) : zipP (a ++ b) (c ++ d) = zipP a c ++ zipP b d := by
  unfold zipP
  rw [List.zip_append h, List.map_append]
theorem zipP_len {a b : List D} (h : a.length = b.length) : (zipP a b).length = a.length := by
  unfold zipP
  rw [List.length_map, List.length_zip, h, Nat.min_self]
theorem relab_mk (sets : List (List (List Int))) : ∀ (s : Sh) (p : List Int), s.m.relab (zipP s.m.labs ((s.m.paths p).map fun r => pathD (bitsOf sets r))) = s.mk sets p
  | .e, _ => rfl
  | .w a c, p => by
    have := relab_mk sets c (p ++ [0])
    rw [Sh.m, Mt.labs, Mt.paths, List.map_cons]
    show (Mt.w (.str a) c.m).relab (.tup [.str a, pathD (bitsOf sets p)] :: zipP c.m.labs _) = _
    rw [Mt.relab, List.tail_cons, this]
    rfl
  | .t a l r, p => by
    have h1 := relab_mk sets l (p ++ [0])
    have h2 := relab_mk sets r (p ++ [1])
    have e1 : l.m.labs.length = ((l.m.paths (p ++ [0])).map fun r => pathD (bitsOf sets r)).length := by rw [List.length_map, Mt.paths_len, Mt.labs_len]
    have e2 : (zipP l.m.labs ((l.m.paths (p ++ [0])).map fun r => pathD (bitsOf sets r))).length = l.m.size := by rw [zipP_len e1, Mt.labs_len]
    rw [Sh.m, Mt.labs, Mt.paths, List.map_cons, List.map_append]
    show (Mt.t (.str a) l.m r.m).relab (.tup [.str a, pathD (bitsOf sets p)] :: zipP (l.m.labs ++ r.m.labs) _) = _
    rw [Mt.relab, List.tail_cons, zipP_app e1, List.take_left' e2, List.drop_left' e2, h1, h2]
    rfl
theorem sc_mark : FnScope ["shape", "sets", "tracks", "path", "chosen", "marks", "track"] ["shape", "sets"] (defScope d_mark) := ⟨rfl, rfl, rfl, by decide +kernel, rfl, by decide +kernel, by decide +kernel⟩
theorem sc__law_marked : FnScope ["shape", "path", "sets", "sign", "one", "k"] ["shape", "path", "sets"] (defScope d__law_marked) := ⟨rfl, rfl, rfl, by decide +kernel, rfl, by decide +kernel, by decide +kernel⟩
def CMark : CP := fun ds q => ∃ (s : Sh) (sets : List (List (List Int))), ds = [s.d, setsD sets] ∧ s.size ≤ 1000 ∧ sets.length ≤ 3 ∧ (∀ c ∈ sets, c.length ≤ 1000) ∧ q (s.mk sets []).d
def CLMark (n : Nat) : CP := fun ds q => ∃ (s : Sh) (p : List Int) (sets : List (List (List Int))), ds = [s.d, pathD p, setsD sets] ∧ s.size < n ∧ p.length + s.size ≤ 1000 ∧ sets.length ≤ 3 ∧ (∀ c ∈ sets, c.length ≤ 1000) ∧ q (s.mk sets p).d
section
variable {P : Program} {w : World} [Tb w] {K : PySem.W.Frag} {mg : Str → Option Value} {base : Heap}
theorem ok_mark {k : Nat} (bu : Bu mg) (c_paths : Cal P w K mg base CX0 k "paths" ["shape"] (spP K CPathsP)) (c_labels_of : Cal P w K mg base CX0 k "labels_of" ["shape"] (spP K CLabels)) (c_with_labels : Cal P w K mg base CX0 k "with_labels" ["shape", "labels"] (spP K CWith)) (Dn : Dfn K mg "mark" ["shape", "sets"] d_mark) : Cal P w K mg base CX0 (k+1) "mark" ["shape", "sets"] (spP K CMark) := by
  refine calP Dn sc_mark (fun ds q h => ?_) fun f cdv A outer s H E ds q hr h => ?_
  · obtain ⟨s, sets, rfl, _⟩ := h
    rfl
  have hu := hu_of hr
  have hu65 := room65 hr
  have hpass := @PassesOwn.never
  obtain ⟨t, sets, rfl, hs, hn, hc, hq⟩ := h
  refine ⟨_, _, (ys_cons (y_set (i := 2) sc_mark.nd rfl (y_lcD (own := [("chosen", 4)]) rfl sc_mark.nd (yi_seq (y_var 1)) (blkOk_by (own := [("chosen", 4)]) (N := ["shape", "sets", "tracks", "path", "chosen", "marks", "track"]) (sc := defScope d_mark) (by decide +kernel)) go_name (fun _ _ _ _ _ => (yg_name (i := 4) sc_mark.nd rfl)) (fun _ _ _ _ _ => yts_nil) (fun _ _ _ _ _ => (y_dcT finZ_ok hu (own := [("path", 3)]) rfl sc_mark.nd (yi_seq (y_var 4)) (blkOk_by (own := [("path", 3)]) (N := ["shape", "sets", "tracks", "path", "chosen", "marks", "track"]) (by kernel_rfl)) go_name (fun _ _ _ _ _ => (yg_name (i := 3) sc_mark.nd rfl)) (fun _ _ _ _ _ => yts_nil) (fun _ _ _ _ _ => (y_var 3)) (fun _ _ _ _ _ => y_bl)))))
      (ys_cons (y_setLc finD_ok (i := 5) (own := [("path", 3)]) rfl sc_mark.nd rfl rfl (sw_true rfl rfl rfl (by decide +kernel)) (yi_seq (y_cal c_paths hr (ya_cons (y_var 0) ya_nil))) (blkOk_by (own := [("path", 3)]) (N := ["shape", "sets", "tracks", "path", "chosen", "marks", "track"]) (sc := defScope d_mark) (by decide +kernel)) go_name (fun _ _ _ _ _ => (yg_name (i := 3) sc_mark.nd rfl)) (fun _ _ _ _ _ => yts_nil) (fun _ _ _ _ _ => (y_tupC bu (ya_cons (y_lcD (own := [("track", 6)]) rfl sc_mark.nd (yi_seq (y_var 2)) (blkOk_by (own := [("track", 6)]) (N := ["shape", "sets", "tracks", "path", "chosen", "marks", "track"]) (by kernel_rfl)) go_name (fun _ _ _ _ _ => (yg_name (i := 6) sc_mark.nd rfl)) (fun _ _ _ _ _ => yts_nil) (fun _ _ _ _ _ => (y_if (yt_cmp (op_inY hu65) refO_in (y_var 3) (y_var 6) (by rfl)) y_int y_int))) ya_nil))))
      (ys_one (y_ret (y_cal c_with_labels hr (ya_cons (y_var 0) (ya_cons (y_listZip bu rfl (ya_cons (y_cal c_labels_of hr (ya_cons (y_var 0) ya_nil)) (ya_cons (y_var 5) ya_nil))) ya_nil))))))), ?_⟩
  unfold setsD
  norm_cast
  push_cast []
  refine lc_mapA (it := dSeqI (dVar 1)) (ts := sets) (fun c => .tup (c.map pathD)) trackD (by omega) (fun c hcm acc k ω hl2 hk => ?_) (fun ω' => ?_)
  · have hcl := hc c hcm
    push_cast []
    refine dc_ind (fun is ω' => ∃ done rest, done ++ rest = c ∧ is = (rest.map pathD).map S.d ∧ ω' = ω ++ [.dT (kvT (oncePs done))]) ⟨[], c, rfl, rfl, rfl⟩ (fun s r ω' k2 h hk2 => ?_) (fun ω' h => ?_)
    · obtain ⟨done, rest, e, e2, rfl⟩ := h
      cases rest with
      | nil => simp at e2
      | cons p rest =>
        rw [List.map_cons, List.map_cons] at e2
        obtain ⟨rfl, rfl⟩ := List.cons.inj e2
        have h2 := congrArg List.length e
        rw [List.length_append, List.length_cons] at h2
        have hol := oncePs_len done
        have hkl : (kvT (oncePs done)).length < 1000000 := by unfold kvT; rw [List.length_map]; omega
        unfold pathD
        push_cast []
        change Lf (putD _ _ _ _) _
        push_cast [keysOf_path, kvT_put]
        refine hk2 _ ⟨done ++ [p], rest, by rw [← e]; simp, rfl, ?_⟩
        unfold oncePs
        rw [List.foldl_append]
        rfl
    · obtain ⟨done, rest, e, e2, rfl⟩ := h
      cases rest with
      | cons p rest => simp at e2
      | nil =>
        rw [List.append_nil] at e
        subst e
        refine finZ_eq (d := trackD done) get_new ?_ ⟨hl2, trivial, hk _⟩
        unfold frzC kvT trackD
        dsimp only
        rw [List.map_map, List.map_map]
        have : allD ((oncePs done).map ((fun x => x.2) ∘ fun p => (pkey p, S.d (.bl true)))) = some ((oncePs done).map fun _ => .bl true) := allD_mapf (f := fun _ => D.bl true)
        rw [this]
        rfl
  · push_cast []
    refine ⟨t.m, by rw [t.m_d], by rw [t.m_size]; omega, ?_⟩
    push_cast []
    refine lc_mapG (ts := t.m.paths []) pathD (fun r => pathD (bitsOf sets r)) (by rw [Mt.paths_len, t.m_size]; omega) (fun r hr2 acc k hl2 hk => ?_) ?_
    · push_cast []
      refine lc_mapG (ts := sets) trackD (fun c => .int (if r ∈ c then 1 else 0)) (by omega) (fun c hcm acc2 k2 hl3 hk2 => ?_) ?_
      · unfold trackD pathD
        push_cast [keysOf_path]
        have e := val_track (p := r) (l := oncePs c)
        have e2 : decide (r ∈ oncePs c) = decide (r ∈ c) := by rw [Bool.eq_iff_iff]; simp [oncePs_mem]
        rw [e2] at e
        push_cast [e]
        by_cases h : r ∈ c
        · rw [if_pos h] at hk2
          rw [if_pos (by rw [e]; simpa using h)]
          push_cast []
          exact hk2
        · rw [if_neg h] at hk2
          rw [if_neg (by rw [e]; simpa using h)]
          push_cast []
          exact hk2
      · push_cast []
        unfold pathD bitsOf at hk
        rw [List.map_map] at hk
        exact hk
    · push_cast []
      refine ⟨t.m, by rw [t.m_d], by rw [t.m_size]; omega, ?_⟩
      have e1 : t.m.labs.length = ((t.m.paths []).map fun r => pathD (bitsOf sets r)).length := by rw [List.length_map, Mt.paths_len, Mt.labs_len]
      have hle : t.m.labs.length ≤ (t.m.paths []).length := by rw [Mt.paths_len, Mt.labs_len]; exact Nat.le_refl _
      push_cast []
      refine ⟨t.m, zipP t.m.labs ((t.m.paths []).map fun r => pathD (bitsOf sets r)), by rw [t.m_d], by rw [t.m_size]; omega, by rw [zipP_len e1, Mt.labs_len], ?_⟩
      rw [relab_mk]
      exact hq
end
end Y


set_option Elab.async false
set_option linter.all false
set_option maxRecDepth 100000
set_option maxHeartbeats 2000000
namespace Y
open PySem PySem.Spec PyProof.Rows L2 StX XS
local macro_rules | `(tactic| push_cast [$xs,*]) => `(tactic| repeat (first | (with_reducible first | refine g_c ?_ | (refine g_v ?_; first | refine g_var0 ?_ | refine g_var1 ?_ | refine g_var2 ?_ | refine g_var3 ?_ | refine g_var4 ?_ | refine g_var5 ?_ | refine g_var6 ?_ | refine g_var7 ?_ | refine g_var8 ?_ | refine g_var9 ?_ | refine g_var10 ?_ | refine g_var11 ?_ | refine g_var12 ?_ | refine g_var13 ?_ | refine g_var14 ?_ | refine g_var15 ?_)) | ((with_reducible refine lf_go fun Q hQ => ?_); simp only [FrzAt, sortSD, zipD, rslD, setSortD, finJ, slotsD, upg, ix_dicK, ix_dicT, ix_dicP, in_dicK, in_dicT, in_dicP, pkeyOf, seqD, revSeqD, spreadS, truD, slD, tyOk, appD, popD, extD, itemsOf, negD, putD, putC, sizeC, ty_non, ty_bl, ty_int, ty_str, ty_tup, ty_ktup, ty_lst, ty_pin, kitS, intO, addD, subD, mulD, modD, fdivD, shlD, shrD, bandD, borD, eq_ii, eq_ss, eq_bb, eq_tt, eq_ll, eq_tk, ordD, ltD, leD, gtD, geD, in_tup, in_ktup, in_lst, in_str, in_pin, inSq_str, inSq_int, isND, isNon, isBD, ix_tup, ix_ktup, ix_lst, ix_str, ix_pin, lookC, keyOf, keysOf, valS_nil, valS_cons, putS_nil, putS_cons, mergeS, kgetD, kixD, revD, wipeD, allD, len_tup, len_ktup, len_lst, len_str, len_pin, intD, absD, sumD, boolsD, tupD, listD, listP, dictC, lstOf, sqOf, frzC, allB, allI, allDk, ofString_inj, atI_0, atI_1, atI_2, atI_3, atI_1m1, atI_2m1, atI_2m2, atI_3m1, atI_3m2, atI_4m1, atI_4m2, cut_1, cut_2, cut_to1, cut_to2, cut_none, allD_map, List.map_cons, List.map_nil, List.length_cons, List.length_nil, List.length_append, List.length_map, List.length_set, List.replicate, List.nil_append, List.cons_append, List.append_nil, List.append_assoc, List.getElem?_cons_zero, List.getElem?_cons_succ, List.getElem?_nil, List.set_cons_zero, List.set_cons_succ, List.find?_cons, List.find?_nil, List.any_cons, List.any_nil, List.foldl_cons, List.foldl_nil, List.isEmpty_cons, List.isEmpty_nil, List.dropLast_concat, get_new, get_new1, get_new2, get_new3, set_new, set_new1, set_new2, set_new3, Option.map_some, Option.map_none, Option.isSome_some, Option.isSome_none, Option.some.injEq, Sum.inr.injEq, Sum.inl.injEq, reduceCtorEq, if_true, if_false, ite_true, ite_false, Bool.false_eq_true, Bool.not_true, Bool.not_false, Bool.false_xor, Bool.true_xor, Bool.xor_false, Bool.xor_true, decide_true, decide_false, decide_eq_true_eq, true_and, and_true, false_and, and_false, Bool.or_true, Bool.or_false, Bool.true_or, Bool.false_or, Bool.and_true, Bool.and_false, Bool.true_and, Bool.false_and, not_true_eq_false, not_false_eq_true, Nat.reduceAdd, Nat.reduceSub, Nat.reduceLeDiff, Nat.reduceLT, Nat.reduceEqDiff, Nat.reduceMul, Int.reduceLE, Int.reduceLT, Int.reduceEq, Int.reduceAdd, Int.reduceSub, Int.reduceNeg, Int.reduceMul, Int.reduceToNat, String.reduceEq, String.reduceBEq, reduceIte, Int.cast_ofNat_Int, Nat.zero_add, rng_0, rng_1, rng_2, rng_3, Nat.add_one_sub_one, List.reverse_nil, strsOf_nil, strsOf_cons, strsOf_map, intsOf_nil, intsOf_cons, intsOf_map, List.mem_cons, List.not_mem_nil, or_false, false_or, or_true, true_or, allB_map, allI_map, allB_mapf, allI_mapf, get_newm, allD_app, allD_mapf, isEmpty_snoc, $xs,*]; subst hQ; try dsimp only) | (with_reducible first | refine g_op ?_ | refine g_cons ?_ | refine g_nil ?_ | refine g_test ?_ | refine g_asB ?_ | refine g_true ?_ | refine g_false ?_ | refine g_dec ?_ | refine g_seq ?_ | refine g_un ?_ | refine g_b ?_ | refine g_nt ?_ | refine g_ifS ?_ | refine g_ret ?_ | refine g_next ?_ | (refine g_st ?_; first | refine g_set0 ?_ | refine g_set1 ?_ | refine g_set2 ?_ | refine g_set3 ?_ | refine g_set4 ?_ | refine g_set5 ?_ | refine g_set6 ?_ | refine g_set7 ?_ | refine g_set8 ?_ | refine g_set9 ?_ | refine g_set10 ?_ | refine g_set11 ?_ | refine g_set12 ?_ | refine g_set13 ?_ | refine g_set14 ?_ | refine g_set15 ?_) | (refine g_gn ?_; first | refine g_gn0 ?_ | refine g_gn1 ?_ | refine g_gn2 ?_ | refine g_gn3 ?_ | refine g_gn4 ?_ | refine g_gn5 ?_ | refine g_gn6 ?_ | refine g_gn7 ?_ | refine g_gn8 ?_ | refine g_gn9 ?_ | refine g_gn10 ?_ | refine g_gn11 ?_ | refine g_gn12 ?_ | refine g_gn13 ?_ | refine g_gn14 ?_ | refine g_gn15 ?_) | refine g_lf1 ?_ | refine g_lf2 ?_ | refine g_notTv ?_ | refine g_andT ?_ | refine g_orT ?_ | refine g_notT ?_ | refine g_mt ?_ | refine g_mt0 ?_ | refine g_drop ?_ | refine g_tup ?_ | refine g_lstD ?_ | refine g_lst ?_ | refine g_if ?_ | refine g_call ?_ | refine g_callG ?_ | refine g_callX ?_ | refine g_callGX ?_ | refine g_tru ?_ | refine g_andV ?_ | refine g_orV ?_ | refine g_notV ?_ | refine g_sl ?_ | refine g_noPart ?_ | refine g_part ?_ | refine g_partI ?_ | refine g_chain ?_ | refine g_putS ?_ | refine g_isi ?_ | refine g_star ?_ | refine g_for ?_ | refine g_lc ?_ | refine g_seqI ?_ | refine g_revI ?_ | refine g_rng1 ?_ | refine g_rng2 ?_ | refine g_gNil ?_ | refine g_gCons ?_ | refine g_gTup2 ?_ | refine g_gTup3 ?_ | refine g_gTup4 ?_ | refine g_yes ?_ | refine g_retN ?_ | refine g_break ?_ | refine g_cont ?_ | refine g_finD ?_ | refine g_finD2 ?_ | refine g_finP ?_ | refine g_lcB ?_ | refine g_lcNil ?_ | refine g_lcCons ?_ | refine g_forNil ?_ | refine g_forCons ?_ | refine g_rtP ?_ | refine g_rtPin ?_ | refine g_disp ?_ | refine g_pairs0 ?_ | refine g_pairsS ?_ | refine g_pairsI ?_ | refine g_newK ?_ | refine g_newT ?_ | refine g_newP ?_ | refine g_zipI ?_ | refine g_revrng ?_ | refine g_lcN ?_ | refine g_mid ?_ | refine g_elt ?_ | refine g_lcTNil ?_ | refine g_lcTCons ?_ | refine g_dc ?_ | refine g_dcNil ?_ | refine g_dcCons ?_ | refine g_lam ?_ | refine g_callB ?_ | refine g_frz ?_ | refine g_loc rfl ?_ | refine g_locC rfl ?_) | ((with_reducible refine g_pos ?_ ?_); · first | assumption | rfl | omega) | ((with_reducible refine g_neg ?_ ?_); · first | assumption | omega | decide) | ((with_reducible refine And.intro ?_ ?_); · first | trivial | assumption | omega | exact Or.inr (by decide) | (dsimp only; omega) | (simp only [List.length_append, List.length_cons, List.length_nil, List.length_map, List.length_reverse]; omega) | (simp; done))))
local macro_rules | `(tactic| norm_cast) => `(tactic| ((first | with_reducible refine g_endsG ?_ | with_reducible refine g_endsP ?_); simp only [start_eq, List.map_cons, List.map_nil, List.replicate, List.length_cons, List.length_nil, Nat.reduceAdd, Nat.reduceSub, Nat.zero_add, List.cons_append, List.nil_append]))
theorem memP_paths {p : List Int} {ps : List (List Int)} : memP (pathD p) (ps.map pathD) = decide (p ∈ ps) := by
  unfold memP
  induction ps with
  | nil => simp [toPs]
  | cons r ps ih =>
    rw [List.map_cons, toPs, List.any_cons, ih]
    have e : PyData.eqv (toP (pathD r)) (toP (pathD p)) = decide (r = p) := eqv_path
    rw [e]
    by_cases h : r = p <;> simp [h, eq_comm]
    · intro z
      exact absurd z.symm h
theorem set_okD (ps : List (List Int)) : okD (.tup (ps.map pathD)) := okD_of (n := 3) (by
  rw [cleanD]
  exact cleanDs_of fun d hd => by obtain ⟨p, _, rfl⟩ := List.mem_map.mp hd; exact path_clean p 0) (by omega)
theorem in_path {neg : Bool} {p : List Int} {c : List (List Int)} {ω : Sto} {q : S → Sto → Prop} : inSq neg (.tup (p.map .int)) (c.map pathD) ω q = q (.d (.bl (neg ^^ decide (p ∈ c)))) ω := by
  rw [inSq_deep rfl (okD_path p) (set_okD c)]
  have := memP_paths (p := p) (ps := c)
  unfold pathD at this ⊢
  rw [this]
def CLMark2 (n : Nat) : CP := fun ds q => ∃ (s : Sh) (p : List Int) (sets : List (List (List Int))) (ways : Int) (labels : List Str), ds = [s.d, pathD p, setsD sets] ∧ s.size < n ∧ s.size ≤ 60 ∧ p.length + s.size ≤ 1000 ∧ sets.length ≤ 3 ∧ KdOk ways labels ∧ s.Kd ways labels ∧ q (s.mk sets p).d
section
variable {P : Program} {w : World} [Tb w] {K : PySem.W.Frag} {mg : Str → Option Value} {base : Heap}
theorem ok_lmark0 {k N : Nat} (bu : Bu mg) (c__law_marked : Cal P w K mg base CX0 k "_law_marked" ["shape", "path", "sets"] (spP K (CLMark2 N))) (Dn : Dfn K mg "_law_marked" ["shape", "path", "sets"] d__law_marked) : Cal P w K mg base CX0 (k+1) "_law_marked" ["shape", "path", "sets"] (spP K (CLMark2 (N + 1))) := by
  refine calP Dn sc__law_marked (fun ds q h => ?_) fun f cdv A outer s H E ds q hr h => ?_
  · obtain ⟨s, p, sets, ways, labels, rfl, _⟩ := h
    rfl
  have hu := hu_of hr
  have hu64 := hr.units
  have hu65 := room65 hr
  obtain ⟨s, p, sets, ways, labels, rfl, hn, hn2, hp, hsl, hk, hs, hq⟩ := h
  refine ⟨_, _, (ys_cons (y_ifS (yt_cmp (op_eqY hu64) refO_eq (y_var 0) (y_tup ya_nil) (nomark _)) (ys_one (y_ret (y_tup ya_nil))) ys_nil)
      (ys_cons (y_set (i := 3) sc__law_marked.nd rfl (y_tup (ya_cons (y_ix hu (y_var 0) y_int (fun _ _ => rfl)) (ya_cons (y_tupC bu (ya_cons (y_lcD (own := [("one", 4)]) rfl sc__law_marked.nd (yi_seq (y_var 2)) (blkOk_by (own := [("one", 4)]) (N := ["shape", "path", "sets", "sign", "one", "k"]) (sc := defScope d__law_marked) (by decide +kernel)) go_name (fun _ _ _ _ _ => (yg_name (i := 4) sc__law_marked.nd rfl)) (fun _ _ _ _ _ => yts_nil) (fun _ _ _ _ _ => (y_if (yt_cmp (op_inY hu65) refO_in (y_var 1) (y_var 4) (by rfl)) y_int y_int))) ya_nil)) ya_nil))))
      (ys_one (y_ret (y_add (y_tup (ya_cons (y_var 3) ya_nil)) (y_tupC bu (ya_cons (y_lcD (own := [("k", 5)]) rfl sc__law_marked.nd (yi_range2 bu.range (ya_cons y_int (ya_cons (y_len bu (ya_cons (y_var 0) ya_nil)) ya_nil))) (blkOk_by (own := [("k", 5)]) (N := ["shape", "path", "sets", "sign", "one", "k"]) (sc := defScope d__law_marked) (by decide +kernel)) go_name (fun _ _ _ _ _ => (yg_name (i := 5) sc__law_marked.nd rfl)) (fun _ _ _ _ _ => yts_nil) (fun _ _ _ _ _ => (y_cal c__law_marked hr (ya_cons (y_ix hu (y_var 0) (y_var 5) (fun _ _ => rfl)) (ya_cons (y_add (y_var 1) (y_tup (ya_cons (y_sub (y_var 5) y_int) ya_nil))) (ya_cons (y_var 2) ya_nil)))))) ya_nil))))))), ?_⟩
  have oks := okD_of (s.clean hk hs 60 hn2) (by omega)
  have ok0 : okD (.tup []) := okD_path []
  have bits : ∀ (ρ : Env) (q : S → Sto → Prop) (x : XD) (it : TID) (gd : TGD) (td : TTD) (ed : TD), True := fun _ _ _ _ _ _ _ => trivial
  unfold pathD setsD
  norm_cast
  cases s with
  | e =>
    unfold Sh.d at oks ⊢
    push_cast [oks, eqv_nil]
    exact hq
  | w a c =>
    obtain ⟨_, h1, h2⟩ := hs
    rw [Sh.size] at hn hn2 hp
    unfold Sh.d at oks ⊢
    push_cast [oks, ok0, eqv_nil]
    refine lc_mapG (ts := sets) (fun c => .tup (c.map pathD)) (fun c => .int (if p ∈ c then 1 else 0)) (by omega) (fun c hcm acc k2 hl3 hk2 => ?_) ?_
    · push_cast [in_path]
      by_cases h : p ∈ c
      · rw [if_pos h] at hk2
        push_cast [h]
        exact hk2
      · rw [if_neg h] at hk2
        push_cast [h]
        exact hk2
    · push_cast []
      refine ⟨c, p ++ [0], sets, ways, labels, by unfold pathD setsD; rw [List.map_append]; rfl, by omega, by omega, by rw [List.length_append]; simp; omega, hsl, hk, h2, ?_⟩
      push_cast []
      rw [Sh.mk, Mt.d] at hq
      unfold signD pathD bitsOf at hq
      rw [List.map_map] at hq
      exact hq
  | t a l r =>
    obtain ⟨_, h1, h2, h3⟩ := hs
    rw [Sh.size] at hn hn2 hp
    unfold Sh.d at oks ⊢
    push_cast [oks, ok0, eqv_nil]
    refine lc_mapG (ts := sets) (fun c => .tup (c.map pathD)) (fun c => .int (if p ∈ c then 1 else 0)) (by omega) (fun c hcm acc k2 hl3 hk2 => ?_) ?_
    · push_cast [in_path]
      by_cases h : p ∈ c
      · rw [if_pos h] at hk2
        push_cast [h]
        exact hk2
      · rw [if_neg h] at hk2
        push_cast [h]
        exact hk2
    · push_cast []
      refine ⟨l, p ++ [0], sets, ways, labels, by unfold pathD setsD; rw [List.map_append]; rfl, by omega, by omega, by rw [List.length_append]; simp; omega, hsl, hk, h2, ?_⟩
      push_cast []
      refine ⟨r, p ++ [1], sets, ways, labels, by unfold pathD setsD; rw [List.map_append]; rfl, by omega, by omega, by rw [List.length_append]; simp; omega, hsl, hk, h3, ?_⟩
      push_cast []
      rw [Sh.mk, Mt.d] at hq
      unfold signD pathD bitsOf at hq
      rw [List.map_map] at hq
      exact hq
theorem ok_lmark {k : Nat} (bu : Bu mg) (Dn : Dfn K mg "_law_marked" ["shape", "path", "sets"] d__law_marked) : ∀ N, Cal P w K mg base CX0 (k+N) "_law_marked" ["shape", "path", "sets"] (spP K (CLMark2 N))
  | 0 => cal_noP Dn fun ds q ⟨s, p, sets, ways, labels, _, h, _⟩ => by omega
  | N + 1 => ok_lmark0 bu (ok_lmark bu Dn N) Dn
end
end Y


set_option Elab.async false
set_option linter.all false
set_option maxRecDepth 100000
set_option maxHeartbeats 2000000
namespace Y
open PySem PySem.Spec PyProof.Rows L2 StX XC NdefX
variable {w : World} [Tb w]
/-- a def whose promise rests on what an outer one captured -/
structure CalB (P : Program) (w : World) [Tb w] (K : PySem.W.Frag) (mg : Str → Option Value) (k : Nat) (x : Str) (ps fr : List Str) (C : List (Str × Addr) → List V → List D → CP) : Prop where
  ex : ∃ f fd, (∀ cl base ow, CellsIn cl fr ow base → FnOk P w K mg base CX0 k f fd ps (spB (w := w) K (C cl) ow)) ∧ mg x = some (.ref f) ∧ PySem.W.keepIn K (.ref f) = true ∧ Binds K fd ps []
section
variable {P : Program} {K : PySem.W.Frag} {mg : Str → Option Value} {j k : Nat} {x : Str} {ps fr N : List Str} {st : Stmt} {C : List (Str × Addr) → List V → List D → CP}
theorem CalB.mono (c : CalB P w K mg j x ps fr C) (h : j ≤ k) : CalB P w K mg k x ps fr C := let ⟨f, fd, F, r⟩ := c.ex; ⟨f, fd, fun cl base ow hc => (F cl base ow hc).mono h, r⟩
theorem calB (Dn : Dfn K mg x ps st) (Sc : FnScope N ps (defScope st)) (hlen : ∀ cl ws wd ds q, C cl ws wd ds q → ds.length = ps.length)
    (hbody : ∀ (cl : List (Str × Addr)) (base : Heap) (ws : List V) (wd : List D), CellsIn cl fr (ws.map some) base → ∀ (f : Addr) (cdv : Value) (A : Around) (outer : List PySem.Env) (s : Shared) (H : Hp) (E : XK) (ds : List D) (q : D → Prop), Room k (A.deeper (envOfC x (defScope st) s.heap.objs.size f cdv)) → C cl ws wd ds q →
      ∃ ts td, PSsD (cxOf CX0 P w K mg base N x (defScope st) f cdv A outer s H E).nox K E0 (defBody st) ts td ∧ td (endsP q fun _ => False) (startD N (ds.map .d)) []) : CalB P w K mg (k + 1) x ps fr C := by
  obtain ⟨f, fd, F, m, b⟩ := Dn.ex
  refine ⟨f, fd, fun cl base ow hci => F.ok Sc (fun vs H Q E h => ?_) (fun cdv A outer s H vs Q E hr h => ?_), m, F.kp, b⟩
  · obtain ⟨ws, wd, B, ds, q, _, _, _, _, r, hc, _⟩ := h
    rw [r.len]
    exact hlen _ _ _ _ _ hc
  · obtain ⟨ws, wd, B, ds, q, rfl, g, tb, rw', r, hc, hq⟩ := h
    obtain ⟨ts, td, T, ht⟩ := hbody cl base ws wd hci f cdv A outer s H E ds q hr hc
    have sb : StB ⟨B, H, []⟩ K B [] H (L2.start N vs) (startD N (ds.map .d)) [] [] := ⟨Frame.refl g, ⟨tb, List.nodup_nil, rfl, by simp, fun j a c e => by simp at e⟩, slots_start (rs_pairS r), by simp⟩
    exact ⟨ts, T.p, T.r _ H _ _ [] [] _ (endsP q fun _ => False) sb.st (links_pure hq .never) ht⟩
end
section
variable {K : PySem.W.Frag} {X : Cx} {E : XK}
theorem y_calB {k : Nat} {ps fr : List Str} {C : List (Str × Addr) → List V → List D → CP} {x : Str} {p pos : Pos} {e : Expr} {es : List Expr} {u : TAD} (cl : List (Str × Addr)) (js : List Nat)
    (c : CalB X.prog w K X.mg k x ps fr C) (cp : X.Ok → Caps X cl fr js) (hfn : ∀ y c, cl.lookup y = some c → X.fn y = true) (hr : Room k X.A) (ha : PAD X K E (e :: es) ht u) (hg : Gl X x := by rfl) (hdb : (x == ("__debug__" : Str)) = false := by decide)
    (he : starEach (e :: es) X.env = (false, eval e X.env) :: starEach es X.env := by rfl) (hpl : (backTo pos (starEach es X.env)).any (·.1) = false := by rfl) (hK : X.K = K := by rfl) (hw : X.w = w := by rfl) : PD X K E (.Call (.Name x p) (e :: es) [] pos) (tCallB js (spB (w := w) K (C cl)) ht) (dCallB (C cl) js u) := by
  subst hw
  obtain ⟨f, fd, F, hm, hk, hb⟩ := c.ex
  exact y_callB (F cl) cp hfn hr hm hk hb ha hg hdb he hpl hK
end
end Y

set_option Elab.async false
set_option linter.all false
set_option maxRecDepth 100000
set_option maxHeartbeats 2000000
namespace Y
open PySem PySem.Spec PyProof.Rows L2 StX XS XC NdefX
local macro_rules | `(tactic| push_cast [$xs,*]) => `(tactic| repeat (first | (with_reducible first | refine g_c ?_ | (refine g_v ?_; first | refine g_var0 ?_ | refine g_var1 ?_ | refine g_var2 ?_ | refine g_var3 ?_ | refine g_var4 ?_ | refine g_var5 ?_ | refine g_var6 ?_ | refine g_var7 ?_ | refine g_var8 ?_ | refine g_var9 ?_ | refine g_var10 ?_ | refine g_var11 ?_ | refine g_var12 ?_ | refine g_var13 ?_ | refine g_var14 ?_ | refine g_var15 ?_)) | ((with_reducible refine lf_go fun Q hQ => ?_); simp only [FrzAt, sortSD, zipD, rslD, setSortD, finJ, slotsD, upg, ix_dicK, ix_dicT, ix_dicP, in_dicK, in_dicT, in_dicP, pkeyOf, seqD, revSeqD, spreadS, truD, slD, tyOk, appD, popD, extD, itemsOf, negD, putD, putC, sizeC, ty_non, ty_bl, ty_int, ty_str, ty_tup, ty_ktup, ty_lst, ty_pin, kitS, intO, addD, subD, mulD, modD, fdivD, shlD, shrD, bandD, borD, eq_ii, eq_ss, eq_bb, eq_tt, eq_ll, eq_tk, ordD, ltD, leD, gtD, geD, in_tup, in_ktup, in_lst, in_str, in_pin, inSq_str, inSq_int, isND, isNon, isBD, ix_tup, ix_ktup, ix_lst, ix_str, ix_pin, lookC, keyOf, keysOf, valS_nil, valS_cons, putS_nil, putS_cons, mergeS, kgetD, kixD, revD, wipeD, allD, len_tup, len_ktup, len_lst, len_str, len_pin, intD, absD, sumD, boolsD, tupD, listD, listP, dictC, lstOf, sqOf, frzC, allB, allI, allDk, ofString_inj, atI_0, atI_1, atI_2, atI_3, atI_1m1, atI_2m1, atI_2m2, atI_3m1, atI_3m2, atI_4m1, atI_4m2, cut_1, cut_2, cut_to1, cut_to2, cut_none, allD_map, List.map_cons, List.map_nil, List.length_cons, List.length_nil, List.length_append, List.length_map, List.length_set, List.replicate, List.nil_append, List.cons_append, List.append_nil, List.append_assoc, List.getElem?_cons_zero, List.getElem?_cons_succ, List.getElem?_nil, List.set_cons_zero, List.set_cons_succ, List.find?_cons, List.find?_nil, List.any_cons, List.any_nil, List.foldl_cons, List.foldl_nil, List.isEmpty_cons, List.isEmpty_nil, List.dropLast_concat, get_new, get_new1, get_new2, get_new3, set_new, set_new1, set_new2, set_new3, Option.map_some, Option.map_none, Option.isSome_some, Option.isSome_none, Option.some.injEq, Sum.inr.injEq, Sum.inl.injEq, reduceCtorEq, if_true, if_false, ite_true, ite_false, Bool.false_eq_true, Bool.not_true, Bool.not_false, Bool.false_xor, Bool.true_xor, Bool.xor_false, Bool.xor_true, decide_true, decide_false, decide_eq_true_eq, true_and, and_true, false_and, and_false, Bool.or_true, Bool.or_false, Bool.true_or, Bool.false_or, Bool.and_true, Bool.and_false, Bool.true_and, Bool.false_and, not_true_eq_false, not_false_eq_true, Nat.reduceAdd, Nat.reduceSub, Nat.reduceLeDiff, Nat.reduceLT, Nat.reduceEqDiff, Nat.reduceMul, Int.reduceLE, Int.reduceLT, Int.reduceEq, Int.reduceAdd, Int.reduceSub, Int.reduceNeg, Int.reduceMul, Int.reduceToNat, String.reduceEq, String.reduceBEq, reduceIte, Int.cast_ofNat_Int, Nat.zero_add, rng_0, rng_1, rng_2, rng_3, Nat.add_one_sub_one, List.reverse_nil, strsOf_nil, strsOf_cons, strsOf_map, intsOf_nil, intsOf_cons, intsOf_map, List.mem_cons, List.not_mem_nil, or_false, false_or, or_true, true_or, allB_map, allI_map, allB_mapf, allI_mapf, get_newm, allD_app, allD_mapf, isEmpty_snoc, $xs,*]; subst hQ; try dsimp only) | (with_reducible first | refine g_op ?_ | refine g_cons ?_ | refine g_nil ?_ | refine g_test ?_ | refine g_asB ?_ | refine g_true ?_ | refine g_false ?_ | refine g_dec ?_ | refine g_seq ?_ | refine g_un ?_ | refine g_b ?_ | refine g_nt ?_ | refine g_ifS ?_ | refine g_ret ?_ | refine g_next ?_ | (refine g_st ?_; first | refine g_set0 ?_ | refine g_set1 ?_ | refine g_set2 ?_ | refine g_set3 ?_ | refine g_set4 ?_ | refine g_set5 ?_ | refine g_set6 ?_ | refine g_set7 ?_ | refine g_set8 ?_ | refine g_set9 ?_ | refine g_set10 ?_ | refine g_set11 ?_ | refine g_set12 ?_ | refine g_set13 ?_ | refine g_set14 ?_ | refine g_set15 ?_) | (refine g_gn ?_; first | refine g_gn0 ?_ | refine g_gn1 ?_ | refine g_gn2 ?_ | refine g_gn3 ?_ | refine g_gn4 ?_ | refine g_gn5 ?_ | refine g_gn6 ?_ | refine g_gn7 ?_ | refine g_gn8 ?_ | refine g_gn9 ?_ | refine g_gn10 ?_ | refine g_gn11 ?_ | refine g_gn12 ?_ | refine g_gn13 ?_ | refine g_gn14 ?_ | refine g_gn15 ?_) | refine g_lf1 ?_ | refine g_lf2 ?_ | refine g_notTv ?_ | refine g_andT ?_ | refine g_orT ?_ | refine g_notT ?_ | refine g_mt ?_ | refine g_mt0 ?_ | refine g_drop ?_ | refine g_tup ?_ | refine g_lstD ?_ | refine g_lst ?_ | refine g_if ?_ | refine g_call ?_ | refine g_callG ?_ | refine g_callX ?_ | refine g_callGX ?_ | refine g_tru ?_ | refine g_andV ?_ | refine g_orV ?_ | refine g_notV ?_ | refine g_sl ?_ | refine g_noPart ?_ | refine g_part ?_ | refine g_partI ?_ | refine g_chain ?_ | refine g_putS ?_ | refine g_isi ?_ | refine g_star ?_ | refine g_for ?_ | refine g_lc ?_ | refine g_seqI ?_ | refine g_revI ?_ | refine g_rng1 ?_ | refine g_rng2 ?_ | refine g_gNil ?_ | refine g_gCons ?_ | refine g_gTup2 ?_ | refine g_gTup3 ?_ | refine g_gTup4 ?_ | refine g_yes ?_ | refine g_retN ?_ | refine g_break ?_ | refine g_cont ?_ | refine g_finD ?_ | refine g_finD2 ?_ | refine g_finP ?_ | refine g_lcB ?_ | refine g_lcNil ?_ | refine g_lcCons ?_ | refine g_forNil ?_ | refine g_forCons ?_ | refine g_rtP ?_ | refine g_rtPin ?_ | refine g_disp ?_ | refine g_pairs0 ?_ | refine g_pairsS ?_ | refine g_pairsI ?_ | refine g_newK ?_ | refine g_newT ?_ | refine g_newP ?_ | refine g_zipI ?_ | refine g_revrng ?_ | refine g_lcN ?_ | refine g_mid ?_ | refine g_elt ?_ | refine g_lcTNil ?_ | refine g_lcTCons ?_ | refine g_dc ?_ | refine g_dcNil ?_ | refine g_dcCons ?_ | refine g_lam ?_ | refine g_callB ?_ | refine g_frz ?_ | refine g_loc rfl ?_ | refine g_locC rfl ?_) | ((with_reducible refine g_pos ?_ ?_); · first | assumption | rfl | omega) | ((with_reducible refine g_neg ?_ ?_); · first | assumption | omega | decide) | ((with_reducible refine And.intro ?_ ?_); · first | trivial | assumption | omega | exact Or.inr (by decide) | (dsimp only; omega) | (simp only [List.length_append, List.length_cons, List.length_nil, List.length_map, List.length_reverse]; omega) | (simp; done))))
local macro_rules | `(tactic| norm_cast) => `(tactic| ((first | with_reducible refine g_endsG ?_ | with_reducible refine g_endsP ?_); simp only [start_eq, List.map_cons, List.map_nil, List.replicate, List.length_cons, List.length_nil, Nat.reduceAdd, Nat.reduceSub, Nat.zero_add, List.cons_append, List.nil_append]))
/-! ### folded: what comes out of a marked shape -/
/-- what `ev` tells of a part follows by the function -/
def Mt.AbOk (CAb : CP) (ev : Mt → D) : Mt → Prop
  | .e => ev .e = .int 0
  | .w a c => ∀ q : D → Prop, q (ev (.w a c)) → CAb [a, .lst [ev c]] q
  | .t a l r => ∀ q : D → Prop, q (ev (.t a l r)) → CAb [a, .lst [ev l, ev r]] q
def evF (ev : Mt → D) (t : Mt) (b : List D) : List D := ev t :: b
theorem sc_folded : FnScope ["shape", "bottom", "above", "done", "now", "children", "_"] ["shape", "bottom", "above"] (defScope d_folded) := ⟨rfl, rfl, rfl, by decide +kernel, rfl, by decide +kernel, by decide +kernel⟩
section
variable {P : Program} {w : World} [Tb w] {K : PySem.W.Frag} {mg : Str → Option Value} {base : Heap}
theorem ok_folded {k : Nat} {qn : Str} {params : Arguments} {body : Expr} {scope : Scope} {fr : List Str} {CAb : List D → CP} (bu : Bu mg) (c_parts : ∀ base, Cal P w K mg base CX0 k "_parts" ["shape"] (spP K CParts))
    (HL : ∀ (cl : List (Str × Addr)) (base : Heap) (ws : List V) (wd : List D) (f c : Addr), CellsIn cl fr (ws.map some) base → CalC P w K mg base CX0 k f (LamO f qn params body scope cl c) c (LamX.CodeO c qn) ["sign", "states"] (spW K ws wd (CAb wd)))
    (Dn : Dfn K mg "folded" ["shape", "bottom", "above"] d_folded) : CalB P w K mg (k + 1) "folded" ["shape", "bottom", "above"] fr (fun cl ws wd ds q => ∃ (f c : Addr) (t : Mt) (ev : Mt → D), ds = [t.d, .int 0, .clo f (LamO f qn params body scope cl c) c (LamX.CodeO c qn) ws wd] ∧ t.size ≤ 10000 ∧ (∀ s ∈ t.pre, s.AbOk (CAb wd) ev) ∧ q (ev t)) := by
  refine calB Dn sc_folded (fun cl ws wd ds q h => ?_) fun cl base ws wd hci f cdv A outer s H E ds q hr h => ?_
  · obtain ⟨f, c, t, ev, rfl, _⟩ := h
    rfl
  have hu := hu_of hr
  have hpass := @PassesOwn.never
  obtain ⟨fa, ca, t, ev, rfl, hsz, hev, hq⟩ := h
  have hn := t.pre_len
  have c__parts := c_parts base
  have c_above := HL cl base ws wd fa ca hci
  refine ⟨_, _, (ys_cons (y_set (i := 3) sc_folded.nd rfl (y_lst ya_nil))
      (ys_cons (y_for hpass rfl (yi_rev bu (y_cal c__parts hr (ya_cons (y_var 0) ya_nil))) (yg_name (i := 4) sc_folded.nd rfl) (ys_one (y_ifS (yt_tru (y_var 4)) (ys_cons (y_setLc finD_ok (i := 5) (own := [("_", 6)]) rfl sc_folded.nd rfl rfl (sw_true rfl rfl rfl (by decide +kernel)) (yi_seq (y_slice (y_var 4) (yo_some y_int) yo_none)) (blkOk_by (own := [("_", 6)]) (N := ["shape", "bottom", "above", "done", "now", "children", "_"]) (sc := defScope d_folded) (by decide +kernel)) go_name (fun _ _ _ _ _ => (yg_name (i := 6) sc_folded.nd rfl)) (fun _ _ _ _ _ => yts_nil) (fun _ _ _ _ _ => (y_pop (y_var 3))))
          (ys_one (y_expr (y_append (y_var 3) (ya_cons (y_locC (i := 2) c_above hr (ya_cons (y_ix hu (y_var 4) y_int (fun _ _ => rfl)) (ya_cons (y_var 5) ya_nil))) ya_nil))))) (ys_one (y_expr (y_append (y_var 3) (ya_cons (y_var 1) ya_nil)))))))
      (ys_one (y_ret (y_ix hu (y_var 3) y_int (fun _ _ => rfl)))))), ?_⟩
  norm_cast
  push_cast []
  refine ⟨t, rfl, hsz, ?_⟩
  push_cast []
  have ini : Mt.Has (evF ev) (fun (t : Mt) (b : List D) => (∀ s ∈ t.pre, s.AbOk (CAb wd) ev) ∧ b.length + t.size ≤ 20000) := by
    refine ⟨fun a c b h => ?_, fun a l r b h => ?_⟩
    · have h2 := h.2
      simp only [Mt.size] at h2
      exact ⟨fun s hs => h.1 s (by rw [Mt.pre]; simp [hs]), by omega⟩
    · have h2 := h.2
      simp only [Mt.size] at h2
      exact ⟨⟨fun s hs => h.1 s (by rw [Mt.pre]; simp [hs]), by omega⟩, fun s hs => h.1 s (by rw [Mt.pre]; simp [hs]), by rw [evF, List.length_cons]; omega⟩
  have hself : ∀ u : Mt, u ∈ u.pre := fun u => by rw [u.pre_eq]; simp
  refine for_tree0 (evF ev) (fun (t : Mt) (b : List D) => (∀ s ∈ t.pre, s.AbOk (CAb wd) ev) ∧ b.length + t.size ≤ 20000) (fun b ρ ω => ∃ y z, ρ = [some (S.d t.d), some (S.d (D.int 0)), some (S.d (D.clo fa (LamO fa qn params body scope cl ca) ca (LamX.CodeO ca qn) ws wd)), some (S.pin 0), y, z, none] ∧ ω = [Cell.lst (b.reverse.map S.d)])
    ini (fun u b ρ ω nx' hp hj hk => ?_) t [] ⟨hev, by simp; omega⟩ ⟨none, none, rfl, rfl⟩ (fun ρ' ω' hj => ?_)
  · obtain ⟨y, z, rfl, rfl⟩ := hj
    obtain ⟨hok, hle⟩ := hp
    have hok := hok u (hself u)
    have hbl : b.reverse.length < 999990 := by rw [List.length_reverse]; omega
    cases u with
    | e =>
      simp only [Mt.d, Mt.kids]
      push_cast []
      refine hk _ _ trivial ⟨_, _, rfl, ?_⟩
      simp only [Mt.AbOk] at hok
      simp [evF, hok]
    | w a c =>
      simp only [Mt.kids, evF, List.reverse_cons, List.map_append, List.map_cons, List.map_nil]
      simp only [Mt.d]
      push_cast []
      refine hok _ ?_
      push_cast []
      refine hk _ _ trivial ⟨_, _, rfl, ?_⟩
      simp [evF]
    | t a l r =>
      simp only [Mt.kids, evF, List.reverse_cons, List.map_append, List.map_cons, List.map_nil]
      simp only [Mt.d]
      push_cast [get_newm1, dl2]
      refine hok _ ?_
      push_cast []
      refine hk _ _ trivial ⟨_, _, rfl, ?_⟩
      simp [evF]
  · obtain ⟨y, z, rfl, rfl⟩ := hj
    simp only [evF]
    push_cast []
    exact hq
end
end Y


set_option Elab.async false
set_option linter.all false
set_option maxRecDepth 100000
set_option maxHeartbeats 2000000
namespace Y
open PySem PySem.Spec PyProof.Rows L2 StX XC NdefX
variable {w : World} [Tb w]
/-! ### a def with its code's address -/
structure FunC (K : PySem.W.Frag) (x qual : Str) (st : Stmt) (f : Addr) (fd : FuncData) (c : Addr) : Prop where
  ex : ∃ (oc : Value) (od : Option Addr) (kV doc pm : Value) (an : Option Addr) (ct : Value) (osl : Array (Option Value)),
    fd = PySem.W.fnOf x qual (defArgs st) (defBody st) (defScope st) .none kV doc pm an (.ref c) ct ∧ K.lookup f = some ⟨oc, od, .func fd, osl⟩ ∧ PySem.W.codeIn K (.ref c) qual = true
  kp : PySem.W.keepIn K (.ref f) = true
theorem FunC.ok {P : Program} {w : World} {K : PySem.W.Frag} {mg : Str → Option Value} {base : Heap} {x qual : Str} {st : Stmt} {f c : Addr} {fd : FuncData} {N ps : List Str} {k : Nat} {sp : Sp} (F : FunC K x qual st f fd c) (S : FnScope N ps (defScope st)) (len : ∀ vs H Q E, sp vs H Q E → vs.length = ps.length)
    (hbody : ∀ (A : Around) (outer : List PySem.Env) (s : Shared) (H : Hp) (vs : List V) (Q : VK) (E : XK), Room k (A.deeper (envOfC qual (defScope st) s.heap.objs.size f (.ref c))) → sp vs H Q E →
      ∃ t, PSs (cxOf CX0 P w K mg base N qual (defScope st) f (.ref c) A outer s H E).nox (defBody st) t ∧ t { nx := fun _ H' => Q .non H', rt := Q } (L2.start N vs) H) : FnOk P w K mg base CX0 (k + 1) f fd ps sp := by
  obtain ⟨oc, od, kV, doc, pm, an, ct, osl, rfl, lk, hcd⟩ := F.ex
  refine fn_of lk hcd S len fun A outer s H vs Q E hr hsp => ?_
  obtain ⟨t, h, q⟩ := hbody A outer s H vs Q E hr hsp
  exact ⟨t, h.nox, q⟩
structure DfnC (K : PySem.W.Frag) (mg : Str → Option Value) (x : Str) (ps : List Str) (st : Stmt) (c : Addr) : Prop where
  ex : ∃ f fd, FunC K x x st f fd c ∧ mg x = some (.ref f) ∧ Binds K fd ps []
section
variable {P : Program} {K : PySem.W.Frag} {mg : Str → Option Value} {base : Heap} {k : Nat} {x : Str} {ps N : List Str} {st : Stmt} {c : Addr}
theorem calPC {C : CP} (Dn : DfnC K mg x ps st c) (Sc : FnScope N ps (defScope st)) (hlen : ∀ ds q, C ds q → ds.length = ps.length)
    (hbody : ∀ (f : Addr) (A : Around) (outer : List PySem.Env) (s : Shared) (H : Hp) (E : XK) (ds : List D) (q : D → Prop), Room k (A.deeper (envOfC x (defScope st) s.heap.objs.size f (.ref c))) → C ds q →
      ∃ ts td, PSsD (cxOf CX0 P w K mg base N x (defScope st) f (.ref c) A outer s H E).nox K E0 (defBody st) ts td ∧ td (endsP q fun _ => False) (startD N (ds.map .d)) []) : Cal P w K mg base CX0 (k + 1) x ps (spP K C) := by
  obtain ⟨f, fd, F, m, b⟩ := Dn.ex
  refine ⟨f, fd, F.ok Sc (fun vs H Q E h => ?_) (fun A outer s H vs Q E hr h => ?_), m, F.kp, b⟩
  · obtain ⟨B, ds, q, x, _, _, r, hc, _⟩ := h
    rw [r.len]
    exact hlen _ _ hc.1
  · obtain ⟨B, ds, q, x, g, tb, r, hc, hq, hx⟩ := h
    obtain ⟨ts, td, T, ht⟩ := hbody f A outer s H E ds q hr hc.1
    have sb : StB ⟨B, H, []⟩ K B [] H (L2.start N vs) (startD N (ds.map .d)) [] [] := ⟨Frame.refl g, ⟨tb, List.nodup_nil, rfl, by simp, fun j a c e => by simp at e⟩, slots_start (rs_pairS r), by simp⟩
    exact ⟨ts, T.p, T.r _ H _ _ [] [] _ (endsP q fun _ => False) sb.st (links_pure hq .never) ht⟩
end
/-! ### dicts that are made by the same keys -/
def putG {κ β : Type} [DecidableEq κ] (kvs : List (κ × β)) (k : κ) (v : β) : List (κ × β) := if kvs.any (fun kv => decide (kv.1 = k)) then kvs.map (fun kv => if kv.1 = k then (kv.1, v) else kv) else kvs ++ [(k, v)]
theorem putS_G {κ β : Type} [DecidableEq κ] {kvs : List (κ × β)} {k : κ} {v : β} (g : β → S) : putS (kvs.map fun p => (p.1, g p.2)) k (g v) = (putG kvs k v).map fun p => (p.1, g p.2) := by
  unfold putS putG
  have e : (kvs.map fun p => (p.1, g p.2)).any (fun kv => decide (kv.1 = k)) = kvs.any (fun kv => decide (kv.1 = k)) := by rw [List.any_map]; rfl
  rw [e]
  split
  · rw [List.map_map, List.map_map]
    refine List.map_congr_left fun p _ => ?_
    simp only [Function.comp_apply]
    split <;> rfl
  · rw [List.map_append]; rfl
/-- the place of each key: the last one where it stands -/
def idxOf {κ : Type} [DecidableEq κ] (ks : List κ) : List (κ × Nat) := ks.zipIdx.foldl (fun l p => putG l p.1 p.2) []
theorem idx_snoc {κ : Type} [DecidableEq κ] (ks : List κ) (k : κ) : idxOf (ks ++ [k]) = putG (idxOf ks) k ks.length := by
  unfold idxOf
  rw [List.zipIdx_append, List.foldl_append]
  simp
theorem putG_len {κ β : Type} [DecidableEq κ] {kvs : List (κ × β)} {k : κ} {v : β} : (putG kvs k v).length ≤ kvs.length + 1 := by
  unfold putG
  split <;> simp
theorem putG_val {κ β : Type} [DecidableEq κ] {kvs : List (κ × β)} {k : κ} {v : β} {p : κ × β} (h : p ∈ putG kvs k v) : p ∈ kvs ∨ p.2 = v := by
  unfold putG at h
  split at h
  · obtain ⟨q, hq, rfl⟩ := List.mem_map.mp h
    split
    · exact .inr rfl
    · exact .inl hq
  · rcases List.mem_append.mp h with h | h
    · exact .inl h
    · rw [List.mem_singleton.mp h]; exact .inr rfl
theorem idx_len {κ : Type} [DecidableEq κ] (ks : List κ) : (idxOf ks).length ≤ ks.length := by
  suffices h : ∀ n (ks : List κ), ks.length = n → (idxOf ks).length ≤ ks.length from h _ ks rfl
  intro n
  induction n with
  | zero => intro ks h; rw [List.length_eq_zero_iff.mp h]; simp [idxOf]
  | succ n ih =>
    intro ks h
    have hne : ks ≠ [] := fun z => by rw [z] at h; simp at h
    rw [← List.dropLast_concat_getLast hne, idx_snoc, List.length_append, List.length_singleton]
    exact Nat.le_trans putG_len (Nat.succ_le_succ (ih _ (by rw [List.length_dropLast, h]; rfl)))
theorem idx_lt {κ : Type} [DecidableEq κ] (ks : List κ) : ∀ p ∈ idxOf ks, p.2 < ks.length := by
  suffices h : ∀ n (ks : List κ), ks.length = n → ∀ p ∈ idxOf ks, p.2 < ks.length from h _ ks rfl
  intro n
  induction n with
  | zero => intro ks h p hp; rw [List.length_eq_zero_iff.mp h] at hp; simp [idxOf] at hp
  | succ n ih =>
    intro ks h p hp
    have hne : ks ≠ [] := fun z => by rw [z] at h; simp at h
    rw [← List.dropLast_concat_getLast hne] at hp ⊢
    rw [idx_snoc] at hp
    rw [List.length_append, List.length_singleton]
    rcases putG_val hp with hp | hp
    · exact Nat.lt_succ_of_lt (ih _ (by rw [List.length_dropLast, h]; rfl) p hp)
    · rw [hp]; exact Nat.lt_succ_self _
def findG {κ β : Type} [DecidableEq κ] (kvs : List (κ × β)) (k : κ) : Option β := (kvs.find? fun kv => decide (kv.1 = k)).map (·.2)
theorem valD_G {κ β : Type} [DecidableEq κ] {k : κ} (g : β → D) : ∀ {kvs : List (κ × β)}, valD (kvs.map (·.1)) (kvs.map fun p => g p.2) k = (findG kvs k).map g
  | [] => rfl
  | p :: kvs => by
    rw [List.map_cons, List.map_cons, valD]
    unfold findG
    rw [List.find?_cons]
    by_cases h : p.1 = k
    · simp [h]
    · simp only [h, decide_false, if_false]
      exact valD_G g
theorem find_mem {κ : Type} [DecidableEq κ] {ks : List κ} {k : κ} {i : Nat} (h : findG (idxOf ks) k = some i) : i < ks.length := by
  unfold findG at h
  obtain ⟨p, hp, rfl⟩ := Option.map_eq_some_iff.mp h
  exact idx_lt ks p (List.mem_of_find?_eq_some hp)
theorem putG_find {κ β : Type} [DecidableEq κ] {kvs : List (κ × β)} {k k' : κ} {v : β} : (findG (putG kvs k v) k').isSome = (decide (k = k') || (findG kvs k').isSome) := by
  unfold findG
  rw [Option.isSome_map, Option.isSome_map, Bool.eq_iff_iff]
  simp only [List.find?_isSome, Bool.or_eq_true, decide_eq_true_eq]
  unfold putG
  split
  · rename_i hany
    obtain ⟨p, hp, e⟩ := List.any_eq_true.mp hany
    have e : p.1 = k := by simpa using e
    constructor
    · rintro ⟨q, hq, e2⟩
      obtain ⟨r, hr, rfl⟩ := List.mem_map.mp hq
      refine .inr ⟨r, hr, ?_⟩
      split at e2 <;> exact e2
    · rintro (rfl | ⟨q, hq, e2⟩)
      · exact ⟨_, List.mem_map.mpr ⟨p, hp, rfl⟩, by rw [if_pos e]; exact e⟩
      · exact ⟨_, List.mem_map.mpr ⟨q, hq, rfl⟩, by split <;> exact e2⟩
  · constructor
    · rintro ⟨q, hq, e2⟩
      rcases List.mem_append.mp hq with hq | hq
      · exact .inr ⟨q, hq, e2⟩
      · rw [List.mem_singleton.mp hq] at e2
        exact .inl e2
    · rintro (rfl | ⟨q, hq, e2⟩)
      · exact ⟨(k, v), List.mem_append_right _ (by simp), by simp⟩
      · exact ⟨q, List.mem_append_left _ hq, e2⟩
theorem idx_some {κ : Type} [DecidableEq κ] {ks : List κ} {k : κ} (h : k ∈ ks) : ∃ i, findG (idxOf ks) k = some i := by
  suffices hh : ∀ n (ks : List κ), ks.length = n → k ∈ ks → (findG (idxOf ks) k).isSome = true from Option.isSome_iff_exists.mp (hh _ ks rfl h)
  intro n
  induction n with
  | zero => intro ks h hk; rw [List.length_eq_zero_iff.mp h] at hk; simp at hk
  | succ n ih =>
    intro ks h hk
    have hne : ks ≠ [] := fun z => by rw [z] at h; simp at h
    rw [← List.dropLast_concat_getLast hne] at hk ⊢
    rw [idx_snoc, putG_find, Bool.or_eq_true]
    rcases List.mem_append.mp hk with hk | hk
    · exact .inr (ih _ (by rw [List.length_dropLast, h]; rfl) hk)
    · exact .inl (by rw [List.mem_singleton.mp hk]; simp)
end Y

set_option Elab.async false
set_option linter.all false
set_option maxRecDepth 100000
set_option maxHeartbeats 2000000
namespace Y
open PySem PySem.Spec PyProof.Rows L2 StX XS XC NdefX
local macro_rules | `(tactic| push_cast [$xs,*]) => `(tactic| repeat (first | (with_reducible first | refine g_c ?_ | (refine g_v ?_; first | refine g_var0 ?_ | refine g_var1 ?_ | refine g_var2 ?_ | refine g_var3 ?_ | refine g_var4 ?_ | refine g_var5 ?_ | refine g_var6 ?_ | refine g_var7 ?_ | refine g_var8 ?_ | refine g_var9 ?_ | refine g_var10 ?_ | refine g_var11 ?_ | refine g_var12 ?_ | refine g_var13 ?_ | refine g_var14 ?_ | refine g_var15 ?_)) | ((with_reducible refine lf_go fun Q hQ => ?_); simp only [FrzAt, sortSD, zipD, rslD, setSortD, finJ, slotsD, ix_dicK, ix_dicT, ix_dicP, in_dicK, in_dicT, in_dicP, pkeyOf, seqD, revSeqD, spreadS, truD, slD, tyOk, appD, popD, extD, itemsOf, negD, putD, putC, sizeC, ty_non, ty_bl, ty_int, ty_str, ty_tup, ty_ktup, ty_lst, ty_pin, kitS, intO, addD, subD, mulD, modD, fdivD, shlD, shrD, bandD, borD, eq_ii, eq_ss, eq_bb, eq_tt, eq_ll, eq_tk, ordD, ltD, leD, gtD, geD, in_tup, in_ktup, in_lst, in_str, in_pin, inSq_str, inSq_int, isND, isNon, isBD, ix_tup, ix_ktup, ix_lst, ix_str, ix_pin, lookC, keyOf, keysOf, valS_nil, valS_cons, putS_nil, putS_cons, mergeS, kgetD, kixD, revD, wipeD, allD, len_tup, len_ktup, len_lst, len_str, len_pin, intD, absD, sumD, boolsD, tupD, listD, listP, dictC, lstOf, sqOf, frzC, allB, allI, allDk, ofString_inj, atI_0, atI_1, atI_2, atI_3, atI_1m1, atI_2m1, atI_2m2, atI_3m1, atI_3m2, atI_4m1, atI_4m2, cut_1, cut_2, cut_to1, cut_to2, cut_none, allD_map, List.map_cons, List.map_nil, List.length_cons, List.length_nil, List.length_append, List.length_map, List.length_set, List.replicate, List.nil_append, List.cons_append, List.append_nil, List.append_assoc, List.getElem?_cons_zero, List.getElem?_cons_succ, List.getElem?_nil, List.set_cons_zero, List.set_cons_succ, List.find?_cons, List.find?_nil, List.any_cons, List.any_nil, List.foldl_cons, List.foldl_nil, List.isEmpty_cons, List.isEmpty_nil, List.dropLast_concat, get_new, get_new1, get_new2, get_new3, set_new, set_new1, set_new2, set_new3, Option.map_some, Option.map_none, Option.isSome_some, Option.isSome_none, Option.some.injEq, Sum.inr.injEq, Sum.inl.injEq, reduceCtorEq, if_true, if_false, ite_true, ite_false, Bool.false_eq_true, Bool.not_true, Bool.not_false, Bool.false_xor, Bool.true_xor, Bool.xor_false, Bool.xor_true, decide_true, decide_false, decide_eq_true_eq, true_and, and_true, false_and, and_false, Bool.or_true, Bool.or_false, Bool.true_or, Bool.false_or, Bool.and_true, Bool.and_false, Bool.true_and, Bool.false_and, not_true_eq_false, not_false_eq_true, Nat.reduceAdd, Nat.reduceSub, Nat.reduceLeDiff, Nat.reduceLT, Nat.reduceEqDiff, Nat.reduceMul, Int.reduceLE, Int.reduceLT, Int.reduceEq, Int.reduceAdd, Int.reduceSub, Int.reduceNeg, Int.reduceMul, Int.reduceToNat, String.reduceEq, String.reduceBEq, reduceIte, Int.cast_ofNat_Int, Nat.zero_add, rng_0, rng_1, rng_2, rng_3, Nat.add_one_sub_one, List.reverse_nil, strsOf_nil, strsOf_cons, strsOf_map, intsOf_nil, intsOf_cons, intsOf_map, List.mem_cons, List.not_mem_nil, or_false, false_or, or_true, true_or, allB_map, allI_map, allB_mapf, allI_mapf, get_newm, allD_app, allD_mapf, isEmpty_snoc, $xs,*]; subst hQ; try dsimp only) | (with_reducible first | refine g_op ?_ | refine g_cons ?_ | refine g_nil ?_ | refine g_test ?_ | refine g_asB ?_ | refine g_true ?_ | refine g_false ?_ | refine g_dec ?_ | refine g_seq ?_ | refine g_un ?_ | refine g_b ?_ | refine g_nt ?_ | refine g_ifS ?_ | refine g_ret ?_ | refine g_next ?_ | (refine g_st ?_; first | refine g_set0 ?_ | refine g_set1 ?_ | refine g_set2 ?_ | refine g_set3 ?_ | refine g_set4 ?_ | refine g_set5 ?_ | refine g_set6 ?_ | refine g_set7 ?_ | refine g_set8 ?_ | refine g_set9 ?_ | refine g_set10 ?_ | refine g_set11 ?_ | refine g_set12 ?_ | refine g_set13 ?_ | refine g_set14 ?_ | refine g_set15 ?_) | (refine g_gn ?_; first | refine g_gn0 ?_ | refine g_gn1 ?_ | refine g_gn2 ?_ | refine g_gn3 ?_ | refine g_gn4 ?_ | refine g_gn5 ?_ | refine g_gn6 ?_ | refine g_gn7 ?_ | refine g_gn8 ?_ | refine g_gn9 ?_ | refine g_gn10 ?_ | refine g_gn11 ?_ | refine g_gn12 ?_ | refine g_gn13 ?_ | refine g_gn14 ?_ | refine g_gn15 ?_) | refine g_lf1 ?_ | refine g_lf2 ?_ | refine g_notTv ?_ | refine g_andT ?_ | refine g_orT ?_ | refine g_notT ?_ | refine g_mt ?_ | refine g_mt0 ?_ | refine g_drop ?_ | refine g_tup ?_ | refine g_lstD ?_ | refine g_lst ?_ | refine g_if ?_ | refine g_call ?_ | refine g_callG ?_ | refine g_callX ?_ | refine g_callGX ?_ | refine g_tru ?_ | refine g_andV ?_ | refine g_orV ?_ | refine g_notV ?_ | refine g_sl ?_ | refine g_noPart ?_ | refine g_part ?_ | refine g_partI ?_ | refine g_chain ?_ | refine g_putS ?_ | refine g_isi ?_ | refine g_star ?_ | refine g_for ?_ | refine g_lc ?_ | refine g_seqI ?_ | refine g_revI ?_ | refine g_rng1 ?_ | refine g_rng2 ?_ | refine g_gNil ?_ | refine g_gCons ?_ | refine g_gTup2 ?_ | refine g_gTup3 ?_ | refine g_gTup4 ?_ | refine g_yes ?_ | refine g_retN ?_ | refine g_break ?_ | refine g_cont ?_ | refine g_finD ?_ | refine g_finD2 ?_ | refine g_finP ?_ | refine g_lcB ?_ | refine g_lcNil ?_ | refine g_lcCons ?_ | refine g_forNil ?_ | refine g_forCons ?_ | refine g_rtP ?_ | refine g_rtPin ?_ | refine g_disp ?_ | refine g_pairs0 ?_ | refine g_pairsS ?_ | refine g_pairsI ?_ | refine g_newK ?_ | refine g_newT ?_ | refine g_newP ?_ | refine g_zipI ?_ | refine g_revrng ?_ | refine g_lcN ?_ | refine g_mid ?_ | refine g_elt ?_ | refine g_lcTNil ?_ | refine g_lcTCons ?_ | refine g_dc ?_ | refine g_dcNil ?_ | refine g_dcCons ?_ | refine g_lam ?_ | refine g_callB ?_ | refine g_frz ?_ | refine g_loc rfl ?_ | refine g_locC rfl ?_) | ((with_reducible refine g_pos ?_ ?_); · first | assumption | rfl | omega) | ((with_reducible refine g_neg ?_ ?_); · first | assumption | omega | decide) | ((with_reducible refine And.intro ?_ ?_); · first | trivial | assumption | omega | exact Or.inr (by decide) | (dsimp only; omega) | (simp only [List.length_append, List.length_cons, List.length_nil, List.length_map, List.length_reverse]; omega) | (simp; done))))
local macro_rules | `(tactic| norm_cast) => `(tactic| ((first | with_reducible refine g_endsG ?_ | with_reducible refine g_endsP ?_); simp only [start_eq, List.map_cons, List.map_nil, List.replicate, List.length_cons, List.length_nil, Nat.reduceAdd, Nat.reduceSub, Nat.zero_add, List.cons_append, List.nil_append]))
/-! ### the lambda of state_of -/
def lam7 : Option Expr := match (defBody d_state_of).getLast? with
  | some (.Return (some (.Call _ args _ _)) _) => args.getLast?
  | _ => none
def lamP : Option Expr → Arguments
  | some (.Lambda p _ _ _) => p
  | _ => ⟨[], [], none, [], [], none, []⟩
def lamB : Option Expr → Expr
  | some (.Lambda _ b _ _) => b
  | _ => .Name "" ⟨0, 0, 0, 0⟩
def lamS : Option Expr → Scope
  | some (.Lambda _ _ s _) => s
  | _ => defScope d_state_of
def lamQ : Str := (envOfC "state_of" (defScope d_state_of) 0 0 .none).qual ++ "<lambda>"
theorem scLam : NScope ["sign", "states", "rows"] ["sign", "states"] ["rows"] (lamS lam7) := nscope_by (by decide +kernel)
/-- what the function tells of a sign and of states -/
def CAb7 (wd : List D) : CP := fun ds q => ∃ (ks : List XP.PKey) (vs : List D) (a : Str) (b : List Int) (row : D) (sts : List Int) (z : D), wd = [.dicP ks vs] ∧ ds = [signD a b, .lst (sts.map .int)] ∧ valD ks vs (Sum.inr a, pkey b) = some row ∧ rowAt row sts = some z ∧ q z
theorem sc_state_of : FnScope ["machine", "marked", "kind", "tracks", "table", "_", "rows", "sign", "row"] ["machine", "marked"] (defScope d_state_of) := ⟨rfl, rfl, rfl, by decide +kernel, rfl, by decide +kernel, by decide +kernel⟩
section
variable {P : Program} {w : World} [Tb w] {K : PySem.W.Frag} {mg : Str → Option Value} {base : Heap}
theorem ok_lam7 {k : Nat} (c_entry : ∀ base, Cal P w K mg base CX0 k "entry" ["row", "states"] (spP K CEntry)) (cl : List (Str × Addr)) (base : Heap) (ws : List V) (wd : List D) (f c : Addr) (hci : CellsIn cl ["rows"] (ws.map some) base) :
    CalC P w K mg base CX0 (k + 1) f (LamO f lamQ (lamP lam7) (lamB lam7) (lamS lam7) cl c) c (LamX.CodeO c lamQ) ["sign", "states"] (spW K ws wd (CAb7 wd)) := by
  refine calC_W hci scLam (fun pm cv ctv us h => ?_) (fun ds q h => ?_) (fun A outer s H ds q hr h => ?_)
  · match us, h with
    | [_, _], _ => rfl
  · obtain ⟨ks, vs, a, b, row, sts, z, _, rfl, _⟩ := h
    rfl
  · have hu := hu_of hr
    have c_entry := c_entry base
    obtain ⟨ks, vs, a, b, row, sts, z, rfl, rfl, e2, e3, hq⟩ := h
    refine ⟨_, _, (y_cal c_entry hr (ya_cons (y_ix hu (y_var 2) (y_var 0) (fun _ _ => rfl)) (ya_cons (y_var 1) ya_nil))), ?_⟩
    unfold startW signD pathD
    simp only [List.map_cons, List.map_nil, List.length_cons, List.length_nil, List.cons_append, List.nil_append]
    rw [show (0 + 1 + 1 + 1 - (0 + 1 + 1) - (0 + 1)) = 0 from rfl, List.replicate_zero]
    push_cast [keysOf_path, e2]
    exact ⟨row, sts, z, rfl, e3, g_rtP hq⟩
def sgs (labels : List Str) (n : Nat) : List (Str × List Int) := labels.flatMap fun a => (bitsL n).map fun b => (a, b)
theorem signs_sgs (labels : List Str) (n : Nat) : signsL labels n = (sgs labels n).map fun p => signD p.1 p.2 := by
  unfold signsL sgs
  rw [List.map_flatMap]
  simp only [List.map_map]
  rfl
def sk (p : Str × List Int) : XP.PKey := (Sum.inr p.1, pkey p.2)
def rowsD (labels : List Str) (n : Nat) (table : List D) : D := .dicP ((idxOf ((sgs labels n).map sk)).map (·.1)) ((idxOf ((sgs labels n).map sk)).map fun p => table.getD p.2 .non)
def machD (ways : Int) (labels : List Str) (n : Nat) (table good : List D) : D := .tup [kindD ways labels, .int (n : Nat), .tup table, .tup good]
def Mt.RunOk (labels : List Str) (n : Nat) (table : List D) (ev : Mt → Int) : Mt → Prop
  | .e => ev .e = 0
  | .w a c => ∃ x b i, a = signD x b ∧ findG (idxOf ((sgs labels n).map sk)) (sk (x, b)) = some i ∧ rowAt (table.getD i .non) [ev c] = some (.int (ev (.w a c)))
  | .t a l r => ∃ x b i, a = signD x b ∧ findG (idxOf ((sgs labels n).map sk)) (sk (x, b)) = some i ∧ rowAt (table.getD i .non) [ev l, ev r] = some (.int (ev (.t a l r)))
def CStateOf : CP := fun ds q => ∃ (ways : Int) (labels : List Str) (n : Nat) (table good : List D) (t : Mt) (ev : Mt → Int), ds = [machD ways labels n table good, t.d] ∧ (ways = 1 ∨ ways = 2) ∧ labels ∈ LS6 ∧ kB labels = true ∧ n ≤ 3 ∧ table.length = (signsL labels n).length ∧ t.size ≤ 10000 ∧ (∀ s ∈ t.pre, s.RunOk labels n table ev) ∧ q (.int (ev t))
section
variable {P : Program} {w : World} [Tb w] {K : PySem.W.Frag} {mg : Str → Option Value} {base : Heap}
def mpR (table : List D) (done : List ((Str × List Int) × D)) : List (XP.PKey × S) := (idxOf (done.map fun z => sk z.1)).map fun p => (p.1, .d (table.getD p.2 .non))
theorem ok_state_of {k : Nat} {c Pt : Addr} (bu : Bu mg) (hT : (Pt, fun _ _ => lamQ) ∈ Tb.T (w := w)) (hTu : ∀ p ∈ Tb.T (w := w), p.1 = Pt → p.2 = fun _ _ => lamQ) (TB : LamX.TabB base mg c Pt) (c_signs : Cal P w K mg base CX0 k "signs" ["kind", "tracks"] (spP K CSigns))
    (c_folded : CalB P w K mg k "folded" ["shape", "bottom", "above"] ["rows"] (fun cl ws wd ds q => ∃ (f c : Addr) (t : Mt) (ev : Mt → D), ds = [t.d, .int 0, .clo f (LamO f lamQ (lamP lam7) (lamB lam7) (lamS lam7) cl c) c (LamX.CodeO c lamQ) ws wd] ∧ t.size ≤ 10000 ∧ (∀ s ∈ t.pre, s.AbOk (CAb7 wd) ev) ∧ q (ev t)))
    (Dn : DfnC K mg "state_of" ["machine", "marked"] d_state_of c) : Cal P w K mg base CX0 (k+1) "state_of" ["machine", "marked"] (spP K CStateOf) := by
  refine calPC Dn sc_state_of (fun ds q h => ?_) fun f A outer s H E ds q hr h => ?_
  · obtain ⟨ways, labels, n, table, good, t, ev, rfl, _⟩ := h
    rfl
  have hu := hu_of hr
  have hpass := @PassesOwn.never
  have hfree : ∀ y ∈ (lamS lam7).names, y.2 = .free → (defScope d_state_of).names.lookup y.1 = some .cell ∨ (defScope d_state_of).names.lookup y.1 = some .free := by decide +kernel
  have hfr : ∀ y ∈ (["rows"] : List Str), (y, NameKind.free) ∈ (lamS lam7).names := by decide +kernel
  obtain ⟨ways, labels, n, table, good, t, ev, rfl, hw, hl, hb, hn, htl, hsz, hev, hq⟩ := h
  have hll := (ls6_ok hl).2.2.1
  refine ⟨_, _, (ys_cons (y_asg (y_var 0) (yg_tup (n := 4) rfl (ygs_cons (yg_name (i := 2) sc_state_of.nd rfl) (ygs_cons (yg_name (i := 3) sc_state_of.nd rfl) (ygs_cons (yg_name (i := 4) sc_state_of.nd rfl) (ygs_cons (yg_name (i := 5) sc_state_of.nd rfl) ygs_nil))))))
      (ys_cons (y_set (i := 6) sc_state_of.nd rfl (y_dcP finZ_ok hu (own := [("sign", 7), ("row", 8)]) rfl sc_state_of.nd (yi_zip bu (ya_cons (y_cal c_signs hr (ya_cons (y_var 2) (ya_cons (y_var 3) ya_nil))) (ya_cons (y_var 4) ya_nil))) (blkOk_by (own := [("sign", 7), ("row", 8)]) (N := ["machine", "marked", "kind", "tracks", "table", "_", "rows", "sign", "row"]) (sc := defScope d_state_of) (by decide +kernel)) (go_tup (gos_cons (gos_cons gos_nil))) (fun _ _ _ _ _ => (yg_tup (n := 2) rfl (ygs_cons (yg_name (i := 7) sc_state_of.nd rfl) (ygs_cons (yg_name (i := 8) sc_state_of.nd rfl) ygs_nil)))) (fun _ _ _ _ _ => yts_nil) (fun _ _ _ _ _ => (y_var 7)) (fun _ _ _ _ _ => (y_var 8))))
      (ys_one (y_ret (y_calB _ [6] c_folded (fun ok => Caps.made (scope := lamS lam7) ok hfree hfr rfl) (fun _ _ _ => rfl) hr (ya_cons (y_var 1) (ya_cons y_int (ya_cons (y_lam (P := Pt) (nm := fun _ _ => lamQ) (scope := lamS lam7) TB rfl hT hTu rfl rfl rfl hfree rfl) ya_nil)))))))), ?_⟩
  unfold machD
  norm_cast
  push_cast []
  refine ⟨ways, labels, n, rfl, hw, hl, hb, hn, ?_⟩
  have htl2 : (signsL labels n).length ≤ table.length := by omega
  have hsl := signs_len labels n
  have hle : labels.length * 2 ^ n ≤ 4 * 8 := Nat.mul_le_mul hll (pow3 hn)
  have hgl : (sgs labels n).length = table.length := by rw [htl, signs_sgs, List.length_map]
  push_cast []
  have ez : zipP (signsL labels n) table = ((sgs labels n).zip table).map fun z => .tup [signD z.1.1 z.1.2, z.2] := by
    unfold zipP
    rw [signs_sgs, List.zip_map_left, List.map_map]
    rfl
  rw [ez]
  push_cast []
  refine dc_ind (fun is ω' => ∃ done rest, done ++ rest = (sgs labels n).zip table ∧ is = (rest.map fun z => D.tup [signD z.1.1 z.1.2, z.2]).map S.d ∧ ω' = [.dP (mpR table done)]) ⟨[], _, rfl, rfl, rfl⟩ (fun s r ω' k2 h hk2 => ?_) (fun ω' h => ?_)
  · obtain ⟨done, rest, e, e2, rfl⟩ := h
    cases rest with
    | nil => simp at e2
    | cons z rest =>
      rw [List.map_cons, List.map_cons] at e2
      obtain ⟨rfl, rfl⟩ := List.cons.inj e2
      have h2 := congrArg List.length e
      rw [List.length_append, List.length_cons, List.length_zip] at h2
      have hil := idx_len (done.map fun z => sk z.1)
      rw [List.length_map] at hil
      have hkl : (mpR table done).length < 1000000 := by unfold mpR; rw [List.length_map]; omega
      have hz : z.2 = table.getD done.length .non := by
        have h3 : ((sgs labels n).zip table)[done.length]? = some z := by rw [← e]; simp
        rw [List.getElem?_zip_eq_some] at h3
        rw [List.getD_eq_getElem?_getD, h3.2]
        rfl
      have hput : putS (mpR table done) (Sum.inr z.1.1, pkey z.1.2) (S.d z.2) = mpR table (done ++ [z]) := by
        unfold mpR
        rw [List.map_append, List.map_cons, List.map_nil, idx_snoc, List.length_map, ← putS_G (g := fun i => S.d (table.getD i .non)), ← hz]
        rfl
      unfold signD pathD
      push_cast []
      change Lf (putD _ _ _ _) _
      push_cast [keysOf_path, hput]
      refine hk2 _ ⟨done ++ [z], rest, by rw [← e]; simp, rfl, rfl⟩
  · obtain ⟨done, rest, e, e2, rfl⟩ := h
    cases rest with
    | cons p rest => simp at e2
    | nil =>
      rw [List.append_nil] at e
      subst e
      have hm : ((sgs labels n).zip table).map (fun z => sk z.1) = (sgs labels n).map sk := by
        rw [show (fun z : (Str × List Int) × D => sk z.1) = sk ∘ Prod.fst from rfl, ← List.map_map, List.map_fst_zip (by omega)]
      refine finZ_eq (d := rowsD labels n table) (c := .dP (mpR table ((sgs labels n).zip table))) rfl ?_ ?_
      · unfold frzC mpR rowsD
        dsimp only
        rw [hm, List.map_map, List.map_map]
        have : allD ((idxOf ((sgs labels n).map sk)).map ((fun x => x.2) ∘ fun p => (p.1, S.d (table.getD p.2 .non)))) = some ((idxOf ((sgs labels n).map sk)).map fun p => table.getD p.2 .non) := allD_mapf (f := fun p : XP.PKey × Nat => table.getD p.2 .non)
        rw [this]
        rfl
      · push_cast []
        intro f' c'
        push_cast []
        intro ws
        have ht : ∀ ws wd, upg ws wd t.d = t.d := fun ws wd => by cases t <;> rfl
        refine ⟨f', c', t, fun u => .int (ev u), ?_, hsz, fun s hs => ?_, ?_⟩
        · rw [ht]
          rfl
        · have h1 := hev s hs
          cases s with
          | e => simp only [Mt.AbOk, Mt.RunOk] at h1 ⊢; rw [h1]
          | w a c =>
            intro q' hq'
            obtain ⟨x, b, i, rfl, hf, hrow⟩ := h1
            exact ⟨_, _, x, b, table.getD i .non, [ev c], _, rfl, rfl, by rw [valD_G (fun i => table.getD i .non), show (Sum.inr x, pkey b) = sk (x, b) from rfl, hf]; rfl, hrow, hq'⟩
          | t a l r =>
            intro q' hq'
            obtain ⟨x, b, i, rfl, hf, hrow⟩ := h1
            exact ⟨_, _, x, b, table.getD i .non, [ev l, ev r], _, rfl, rfl, by rw [valD_G (fun i => table.getD i .non), show (Sum.inr x, pkey b) = sk (x, b) from rfl, hf]; rfl, hrow, hq'⟩
        · push_cast []
          exact hq
end
end
end Y


set_option Elab.async false
set_option linter.all false
set_option maxRecDepth 100000
set_option maxHeartbeats 2000000
namespace Y
open PySem PySem.Spec PyProof.Rows L2 StX XS XC NdefX
local macro_rules | `(tactic| push_cast [$xs,*]) => `(tactic| repeat (first | (with_reducible first | refine g_c ?_ | (refine g_v ?_; first | refine g_var0 ?_ | refine g_var1 ?_ | refine g_var2 ?_ | refine g_var3 ?_ | refine g_var4 ?_ | refine g_var5 ?_ | refine g_var6 ?_ | refine g_var7 ?_ | refine g_var8 ?_ | refine g_var9 ?_ | refine g_var10 ?_ | refine g_var11 ?_ | refine g_var12 ?_ | refine g_var13 ?_ | refine g_var14 ?_ | refine g_var15 ?_)) | ((with_reducible refine lf_go fun Q hQ => ?_); simp only [FrzAt, sortSD, zipD, rslD, setSortD, finJ, slotsD, ix_dicK, ix_dicT, ix_dicP, in_dicK, in_dicT, in_dicP, pkeyOf, seqD, revSeqD, spreadS, truD, slD, tyOk, appD, popD, extD, itemsOf, negD, putD, putC, sizeC, ty_non, ty_bl, ty_int, ty_str, ty_tup, ty_ktup, ty_lst, ty_pin, kitS, intO, addD, subD, mulD, modD, fdivD, shlD, shrD, bandD, borD, eq_ii, eq_ss, eq_bb, eq_tt, eq_ll, eq_tk, ordD, ltD, leD, gtD, geD, in_tup, in_ktup, in_lst, in_str, in_pin, inSq_str, inSq_int, isND, isNon, isBD, ix_tup, ix_ktup, ix_lst, ix_str, ix_pin, lookC, keyOf, keysOf, valS_nil, valS_cons, putS_nil, putS_cons, mergeS, kgetD, kixD, revD, wipeD, allD, len_tup, len_ktup, len_lst, len_str, len_pin, intD, absD, sumD, boolsD, tupD, listD, listP, dictC, lstOf, sqOf, frzC, allB, allI, allDk, ofString_inj, atI_0, atI_1, atI_2, atI_3, atI_1m1, atI_2m1, atI_2m2, atI_3m1, atI_3m2, atI_4m1, atI_4m2, cut_1, cut_2, cut_to1, cut_to2, cut_none, allD_map, List.map_cons, List.map_nil, List.length_cons, List.length_nil, List.length_append, List.length_map, List.length_set, List.replicate, List.nil_append, List.cons_append, List.append_nil, List.append_assoc, List.getElem?_cons_zero, List.getElem?_cons_succ, List.getElem?_nil, List.set_cons_zero, List.set_cons_succ, List.find?_cons, List.find?_nil, List.any_cons, List.any_nil, List.foldl_cons, List.foldl_nil, List.isEmpty_cons, List.isEmpty_nil, List.dropLast_concat, get_new, get_new1, get_new2, get_new3, set_new, set_new1, set_new2, set_new3, Option.map_some, Option.map_none, Option.isSome_some, Option.isSome_none, Option.some.injEq, Sum.inr.injEq, Sum.inl.injEq, reduceCtorEq, if_true, if_false, ite_true, ite_false, Bool.false_eq_true, Bool.not_true, Bool.not_false, Bool.false_xor, Bool.true_xor, Bool.xor_false, Bool.xor_true, decide_true, decide_false, decide_eq_true_eq, true_and, and_true, false_and, and_false, Bool.or_true, Bool.or_false, Bool.true_or, Bool.false_or, Bool.and_true, Bool.and_false, Bool.true_and, Bool.false_and, not_true_eq_false, not_false_eq_true, Nat.reduceAdd, Nat.reduceSub, Nat.reduceLeDiff, Nat.reduceLT, Nat.reduceEqDiff, Nat.reduceMul, Int.reduceLE, Int.reduceLT, Int.reduceEq, Int.reduceAdd, Int.reduceSub, Int.reduceNeg, Int.reduceMul, Int.reduceToNat, String.reduceEq, String.reduceBEq, reduceIte, Int.cast_ofNat_Int, Nat.zero_add, rng_0, rng_1, rng_2, rng_3, Nat.add_one_sub_one, List.reverse_nil, strsOf_nil, strsOf_cons, strsOf_map, intsOf_nil, intsOf_cons, intsOf_map, List.mem_cons, List.not_mem_nil, or_false, false_or, or_true, true_or, allB_map, allI_map, allB_mapf, allI_mapf, get_newm, allD_app, allD_mapf, isEmpty_snoc, $xs,*]; subst hQ; try dsimp only) | (with_reducible first | refine g_op ?_ | refine g_cons ?_ | refine g_nil ?_ | refine g_test ?_ | refine g_asB ?_ | refine g_true ?_ | refine g_false ?_ | refine g_dec ?_ | refine g_seq ?_ | refine g_un ?_ | refine g_b ?_ | refine g_nt ?_ | refine g_ifS ?_ | refine g_ret ?_ | refine g_next ?_ | (refine g_st ?_; first | refine g_set0 ?_ | refine g_set1 ?_ | refine g_set2 ?_ | refine g_set3 ?_ | refine g_set4 ?_ | refine g_set5 ?_ | refine g_set6 ?_ | refine g_set7 ?_ | refine g_set8 ?_ | refine g_set9 ?_ | refine g_set10 ?_ | refine g_set11 ?_ | refine g_set12 ?_ | refine g_set13 ?_ | refine g_set14 ?_ | refine g_set15 ?_) | (refine g_gn ?_; first | refine g_gn0 ?_ | refine g_gn1 ?_ | refine g_gn2 ?_ | refine g_gn3 ?_ | refine g_gn4 ?_ | refine g_gn5 ?_ | refine g_gn6 ?_ | refine g_gn7 ?_ | refine g_gn8 ?_ | refine g_gn9 ?_ | refine g_gn10 ?_ | refine g_gn11 ?_ | refine g_gn12 ?_ | refine g_gn13 ?_ | refine g_gn14 ?_ | refine g_gn15 ?_) | refine g_lf1 ?_ | refine g_lf2 ?_ | refine g_notTv ?_ | refine g_andT ?_ | refine g_orT ?_ | refine g_notT ?_ | refine g_mt ?_ | refine g_mt0 ?_ | refine g_drop ?_ | refine g_tup ?_ | refine g_lstD ?_ | refine g_lst ?_ | refine g_if ?_ | refine g_call ?_ | refine g_callG ?_ | refine g_callX ?_ | refine g_callGX ?_ | refine g_tru ?_ | refine g_andV ?_ | refine g_orV ?_ | refine g_notV ?_ | refine g_sl ?_ | refine g_noPart ?_ | refine g_part ?_ | refine g_partI ?_ | refine g_chain ?_ | refine g_putS ?_ | refine g_isi ?_ | refine g_star ?_ | refine g_for ?_ | refine g_lc ?_ | refine g_seqI ?_ | refine g_revI ?_ | refine g_rng1 ?_ | refine g_rng2 ?_ | refine g_gNil ?_ | refine g_gCons ?_ | refine g_gTup2 ?_ | refine g_gTup3 ?_ | refine g_gTup4 ?_ | refine g_yes ?_ | refine g_retN ?_ | refine g_break ?_ | refine g_cont ?_ | refine g_finD ?_ | refine g_finD2 ?_ | refine g_finP ?_ | refine g_lcB ?_ | refine g_lcNil ?_ | refine g_lcCons ?_ | refine g_forNil ?_ | refine g_forCons ?_ | refine g_rtP ?_ | refine g_rtPin ?_ | refine g_disp ?_ | refine g_pairs0 ?_ | refine g_pairsS ?_ | refine g_pairsI ?_ | refine g_newK ?_ | refine g_newT ?_ | refine g_newP ?_ | refine g_zipI ?_ | refine g_revrng ?_ | refine g_lcN ?_ | refine g_mid ?_ | refine g_elt ?_ | refine g_lcTNil ?_ | refine g_lcTCons ?_ | refine g_dc ?_ | refine g_dcNil ?_ | refine g_dcCons ?_ | refine g_lam ?_ | refine g_callB ?_ | refine g_frz ?_ | refine g_loc rfl ?_ | refine g_locC rfl ?_) | ((with_reducible refine g_pos ?_ ?_); · first | assumption | rfl | omega) | ((with_reducible refine g_neg ?_ ?_); · first | assumption | omega | decide) | ((with_reducible refine And.intro ?_ ?_); · first | trivial | assumption | omega | exact Or.inr (by decide) | (dsimp only; omega) | (simp only [List.length_append, List.length_cons, List.length_nil, List.length_map, List.length_reverse]; omega) | (simp; done))))
local macro_rules | `(tactic| norm_cast) => `(tactic| ((first | with_reducible refine g_endsG ?_ | with_reducible refine g_endsP ?_); simp only [start_eq, List.map_cons, List.map_nil, List.replicate, List.length_cons, List.length_nil, Nat.reduceAdd, Nat.reduceSub, Nat.zero_add, List.cons_append, List.nil_append]))
theorem for_rng {n : Nat} {gd : TGD} {bd : TSD} {nx bk ct : Env → Sto → Prop} {rt : S → Sto → Prop} {x : XD} {P : Sto → Prop} {ρ : Env} {ω : Sto} (I : Nat → Env → Sto → Prop) (h0 : I 0 ρ ω)
    (hs : ∀ i ρ ω (nx' : Env → Sto → Prop), i < n → I i ρ ω → (∀ ρ' ω', P ω' → I (i + 1) ρ' ω' → nx' ρ' ω') → gd (.d (.int (i : Nat))) ρ ω (fun ρ1 ω1 => bd ⟨nx', rt, nx, nx', x⟩ ρ1 ω1)) (he : ∀ ρ ω, I n ρ ω → nx ρ ω) : forR gd bd ⟨nx, rt, bk, ct, x⟩ P (rngS 0 n) ρ ω := by
  have e : rngS 0 n = ((List.range n).map fun i : Nat => D.int (i : Nat)).map S.d := by
    unfold rngS
    rw [List.map_map]
    refine List.map_congr_left fun i _ => ?_
    simp
  rw [e]
  refine for_l (ts := List.range n) (fun i : Nat => D.int (i : Nat)) (fun done ρ ω => I done.length ρ ω) h0 (fun i done ρ ω nx' hi hp h hn => ?_) (fun ρ ω h => he _ _ (by simpa using h))
  have hl : done.length = i := by
    obtain ⟨r, hr⟩ := hp
    have h1 : (List.range n)[done.length]? = some i := by rw [← hr]; simp
    obtain ⟨h2, h3⟩ := List.getElem?_eq_some_iff.mp h1
    rw [List.getElem_range] at h3
    exact h3
  subst hl
  exact hs _ ρ ω nx' (List.mem_range.mp hi) h fun ρ' ω' hP hI => hn _ _ hP (by rw [List.length_append]; exact hI)
def lrowsD (labels : List Str) (n : Nat) : D := .dicP ((idxOf ((sgs labels n).map sk)).map (·.1)) ((idxOf ((sgs labels n).map sk)).map fun p => .int (p.2 : Nat))
theorem sc_accepts : FnScope ["machine", "marked"] ["machine", "marked"] (defScope d_accepts) := ⟨rfl, rfl, rfl, by decide +kernel, rfl, by decide +kernel, by decide +kernel⟩
theorem sc__law_rows : FnScope ["kind", "tracks", "listed", "rows", "k"] ["kind", "tracks"] (defScope d__law_rows) := ⟨rfl, rfl, rfl, by decide +kernel, rfl, by decide +kernel, by decide +kernel⟩
theorem sc__law_above : FnScope ["machine", "row", "children", "entry_v", "child"] ["machine", "row", "children"] (defScope d__law_above) := ⟨rfl, rfl, rfl, by decide +kernel, rfl, by decide +kernel, by decide +kernel⟩
theorem sc__law_run : FnScope ["machine", "marked", "rows", "child"] ["machine", "marked", "rows"] (defScope d__law_run) := ⟨rfl, rfl, rfl, by decide +kernel, rfl, by decide +kernel, by decide +kernel⟩
def CAccepts : CP := fun ds q => ∃ (ways : Int) (labels : List Str) (n : Nat) (table good : List D) (t : Mt) (ev : Mt → Int) (z : D), ds = [machD ways labels n table good, t.d] ∧ (ways = 1 ∨ ways = 2) ∧ labels ∈ LS6 ∧ kB labels = true ∧ n ≤ 3 ∧ table.length = (signsL labels n).length ∧ t.size ≤ 10000 ∧ (∀ s ∈ t.pre, s.RunOk labels n table ev) ∧ atI good (ev t) = some z ∧ q z
def CLRows : CP := fun ds q => ∃ (ways : Int) (labels : List Str) (n : Nat), ds = [kindD ways labels, .int (n : Nat)] ∧ labels.length ≤ 4 ∧ n ≤ 3 ∧ q (lrowsD labels n)
def CLAbove : CP := fun ds q => ∃ (ways : Int) (labels : List Str) (n : Nat) (table good : List D) (i : Nat) (row : D) (sts : List Int) (z : D), ds = [machD ways labels n table good, .int (i : Nat), .lst (sts.map .int)] ∧ table[i]? = some row ∧ rowAt row sts = some z ∧ q z
def CLRun (N : Nat) : CP := fun ds q => ∃ (ways : Int) (labels : List Str) (n : Nat) (table good : List D) (t : Mt) (ev : Mt → Int), ds = [machD ways labels n table good, t.d, lrowsD labels n] ∧ table.length = (signsL labels n).length ∧ t.size < N ∧ (∀ s ∈ t.pre, okD s.d) ∧ (∀ s ∈ t.pre, s.RunOk labels n table ev) ∧ q (.int (ev t))
section
variable {P : Program} {w : World} [Tb w] {K : PySem.W.Frag} {mg : Str → Option Value} {base : Heap}
theorem ok_accepts {k : Nat} (c_state_of : Cal P w K mg base CX0 k "state_of" ["machine", "marked"] (spP K CStateOf)) (Dn : Dfn K mg "accepts" ["machine", "marked"] d_accepts) : Cal P w K mg base CX0 (k+1) "accepts" ["machine", "marked"] (spP K CAccepts) := by
  refine calP Dn sc_accepts (fun ds q h => ?_) fun f cdv A outer s H E ds q hr h => ?_
  · obtain ⟨ways, labels, n, table, good, t, ev, z, rfl, _⟩ := h
    rfl
  have hu := hu_of hr
  obtain ⟨ways, labels, n, table, good, t, ev, z, rfl, hw, hl, hb, hn, htl, hsz, hev, hz, hq⟩ := h
  refine ⟨_, _, (ys_one (y_ret (y_ix hu (y_ix hu (y_var 0) y_int (fun _ _ => rfl)) (y_cal c_state_of hr (ya_cons (y_var 0) (ya_cons (y_var 1) ya_nil))) (fun _ _ => rfl)))), ?_⟩
  unfold machD
  norm_cast
  push_cast []
  refine ⟨ways, labels, n, table, good, t, ev, rfl, hw, hl, hb, hn, htl, hsz, hev, ?_⟩
  push_cast [hz]
  exact hq
theorem ok_lrows {k : Nat} (bu : Bu mg) (c__law_signs : Cal P w K mg base CX0 k "_law_signs" ["kind", "tracks"] (spP K CLSigns)) (Dn : Dfn K mg "_law_rows" ["kind", "tracks"] d__law_rows) : Cal P w K mg base CX0 (k+1) "_law_rows" ["kind", "tracks"] (spP K CLRows) := by
  refine calP Dn sc__law_rows (fun ds q h => ?_) fun f cdv A outer s H E ds q hr h => ?_
  · obtain ⟨ways, labels, n, rfl, _⟩ := h
    rfl
  have hu := hu_of hr
  have hpass := @PassesOwn.never
  obtain ⟨ways, labels, n, rfl, hll, hn, hq⟩ := h
  refine ⟨_, _, (ys_cons (y_set (i := 2) sc__law_rows.nd rfl (y_cal c__law_signs hr (ya_cons (y_var 0) (ya_cons (y_var 1) ya_nil))))
      (ys_cons (y_set (i := 3) sc__law_rows.nd rfl y_dnewP)
      (ys_cons (y_for hpass rfl (yi_range1 bu.range (ya_cons (y_len bu (ya_cons (y_var 2) ya_nil)) ya_nil)) (yg_name (i := 4) sc__law_rows.nd rfl) (ys_one (y_dput hu (y_var 3) (y_ix hu (y_var 2) (y_var 4) (fun _ _ => rfl)) (y_var 4))))
      (ys_one (y_ret (y_var 3)))))), ?_⟩
  have hsl := signs_len labels n
  have hle : labels.length * 2 ^ n ≤ 4 * 8 := Nat.mul_le_mul hll (pow3 hn)
  have h62 : int62 ((signsL labels n).length : Nat) := ⟨by omega, by omega⟩
  norm_cast
  push_cast []
  refine ⟨ways, labels, n, rfl, hll, hn, ?_⟩
  push_cast []
  refine for_rng (fun i ρ ω => ∃ y, ρ = [some (.d (kindD ways labels)), some (.d (.int (n : Nat))), some (.d (.lst (signsL labels n))), some (.pin 0), y] ∧ ω = [.dP ((idxOf (((sgs labels n).take i).map sk)).map fun p => (p.1, .d (.int (p.2 : Nat))))]) ⟨none, rfl, rfl⟩ (fun i ρ ω nx hi h hn => ?_) (fun ρ ω h => ?_)
  · obtain ⟨y, rfl, rfl⟩ := h
    have hi2 : i < (sgs labels n).length := by
      have : (signsL labels n).length = (sgs labels n).length := by rw [signs_sgs, List.length_map]
      omega
    have e1 : (signsL labels n)[i]? = some (signD (sgs labels n)[i].1 (sgs labels n)[i].2) := by
      rw [signs_sgs, List.getElem?_map, List.getElem?_eq_getElem hi2]
      rfl
    have e2 : ((sgs labels n).take (i + 1)).map sk = ((sgs labels n).take i).map sk ++ [sk (sgs labels n)[i]] := by
      rw [List.take_add_one, List.getElem?_eq_getElem hi2, List.map_append]
      rfl
    have hlt : (((sgs labels n).take i).map sk).length = i := by rw [List.length_map, List.length_take]; omega
    have hil := idx_len (((sgs labels n).take i).map sk)
    have hkl : ((idxOf (((sgs labels n).take i).map sk)).map fun p => (p.1, S.d (.int (p.2 : Nat)))).length < 1000000 := by rw [List.length_map]; omega
    have hput : putS ((idxOf (((sgs labels n).take i).map sk)).map fun p => (p.1, S.d (.int (p.2 : Nat)))) (Sum.inr (sgs labels n)[i].1, pkey (sgs labels n)[i].2) (S.d (.int (i : Nat))) = (idxOf (((sgs labels n).take (i + 1)).map sk)).map fun p => (p.1, S.d (.int (p.2 : Nat))) := by
      have := putS_G (kvs := idxOf (((sgs labels n).take i).map sk)) (k := sk (sgs labels n)[i]) (v := i) (fun j : Nat => S.d (.int (j : Nat)))
      rw [e2, idx_snoc, hlt]
      exact this
    push_cast [atI_nat, e1, signD, pathD, keysOf_path, hput]
    exact hn _ _ trivial ⟨_, rfl, rfl⟩
  · obtain ⟨y, rfl, rfl⟩ := h
    have e3 : (sgs labels n).take (((signsL labels n).length : Nat) : Int).toNat = sgs labels n := by
      rw [Int.toNat_natCast, signs_sgs, List.length_map]
      exact List.take_of_length_le (Nat.le_refl _)
    have hall : allD (((idxOf ((sgs labels n).map sk)).map fun p => (p.1, S.d (.int (p.2 : Nat)))).map fun x => x.2) = some ((idxOf ((sgs labels n).map sk)).map fun p => .int (p.2 : Nat)) := by
      rw [List.map_map]
      exact allD_mapf (f := fun p : XP.PKey × Nat => D.int (p.2 : Nat))
    rw [e3]
    push_cast [hall]
    rw [List.map_map]
    exact hq
theorem ok_labove {k : Nat} (Dn : Dfn K mg "_law_above" ["machine", "row", "children"] d__law_above) : Cal P w K mg base CX0 (k+1) "_law_above" ["machine", "row", "children"] (spP K CLAbove) := by
  refine calP Dn sc__law_above (fun ds q h => ?_) fun f cdv A outer s H E ds q hr h => ?_
  · obtain ⟨ways, labels, n, table, good, i, row, sts, z, rfl, _⟩ := h
    rfl
  have hu := hu_of hr
  have hpass := @PassesOwn.never
  obtain ⟨ways, labels, n, table, good, i, row, sts, z, rfl, hi, hz, hq⟩ := h
  refine ⟨_, _, (ys_cons (y_set (i := 3) sc__law_above.nd rfl (y_ix hu (y_ix hu (y_var 0) y_int (fun _ _ => rfl)) (y_var 1) (fun _ _ => rfl)))
      (ys_cons (y_for hpass rfl (yi_seq (y_var 2)) (yg_name (i := 4) sc__law_above.nd rfl) (ys_one (y_set (i := 3) sc__law_above.nd rfl (y_ix hu (y_var 3) (y_var 4) (fun _ _ => rfl)))))
      (ys_one (y_ret (y_var 3))))), ?_⟩
  unfold machD
  norm_cast
  push_cast [atI_nat, hi]
  refine for_ind (fun is ρ ω => ∃ (now : D) (r : List Int) (y : Option S), ρ = [some (.d (.tup [kindD ways labels, .int (n : Nat), .tup table, .tup good])), some (.d (.int (i : Nat))), some (.d (.lst (sts.map .int))), some (.d now), y] ∧ ω = [] ∧ is = (r.map D.int).map S.d ∧ rowAt now r = some z) ⟨row, sts, none, rfl, rfl, rfl, hz⟩ (fun s r ρ ω nx h hn => ?_) (fun ρ ω h => ?_)
  · obtain ⟨now, l, y, rfl, rfl, e, hw⟩ := h
    cases l with
    | nil => simp at e
    | cons i l =>
      rw [List.map_cons, List.map_cons] at e
      obtain ⟨rfl, rfl⟩ := List.cons.inj e
      cases now with
      | tup ds =>
        rw [rowAt] at hw
        cases ea : atI ds i with
        | none => rw [ea] at hw; cases hw
        | some d =>
          rw [ea] at hw
          push_cast [ea]
          exact hn _ _ trivial ⟨d, l, _, rfl, rfl, rfl, hw⟩
      | _ => simp [rowAt] at hw
  · obtain ⟨now, r, y, rfl, rfl, e, hw⟩ := h
    cases r with
    | nil =>
      cases hw
      push_cast []
      exact hq
    | cons i r => simp at e
theorem eqv_mt {t : Mt} : PyData.eqv (toP t.d) (toP (.tup [])) = (match t with | .e => true | _ => false) := by
  cases t <;> simp only [Mt.d] <;> exact eqv_nil
theorem ok_lrun0 {k N : Nat} (c__law_above : Cal P w K mg base CX0 k "_law_above" ["machine", "row", "children"] (spP K CLAbove)) (c__law_run : Cal P w K mg base CX0 k "_law_run" ["machine", "marked", "rows"] (spP K (CLRun N))) (Dn : Dfn K mg "_law_run" ["machine", "marked", "rows"] d__law_run) : Cal P w K mg base CX0 (k+1) "_law_run" ["machine", "marked", "rows"] (spP K (CLRun (N + 1))) := by
  refine calP Dn sc__law_run (fun ds q h => ?_) fun f cdv A outer s H E ds q hr h => ?_
  · obtain ⟨ways, labels, n, table, good, t, ev, rfl, _⟩ := h
    rfl
  have hu := hu_of hr
  have hu64 := hr.units
  obtain ⟨ways, labels, n, table, good, t, ev, rfl, htl, hsz, hok, hev, hq⟩ := h
  have ok0 : okD (.tup []) := okD_path []
  have hself : t ∈ t.pre := by rw [t.pre_eq]; simp
  have okt := hok t hself
  have het := hev t hself
  have hgl : (sgs labels n).length = table.length := by rw [htl, signs_sgs, List.length_map]
  have hfind : ∀ {key : XP.PKey} {i : Nat}, findG (idxOf ((sgs labels n).map sk)) key = some i → i < table.length := fun h => by
    have := find_mem h
    rw [List.length_map] at this
    omega
  refine ⟨_, _, (ys_cons (y_ifS (yt_cmp (op_eqY hu64) refO_eq (y_var 1) (y_tup ya_nil) (nomark _)) (ys_one (y_ret y_int)) ys_nil)
      (ys_one (y_ret (y_cal c__law_above hr (ya_cons (y_var 0) (ya_cons (y_ix hu (y_var 2) (y_ix hu (y_var 1) y_int (fun _ _ => rfl)) (fun _ _ => rfl)) (ya_cons (y_lcD (own := [("child", 3)]) rfl sc__law_run.nd (yi_seq (y_slice (y_var 1) (yo_some y_int) yo_none)) (blkOk_by (own := [("child", 3)]) (N := ["machine", "marked", "rows", "child"]) (sc := defScope d__law_run) (by decide +kernel)) go_name (fun _ _ _ _ _ => (yg_name (i := 3) sc__law_run.nd rfl)) (fun _ _ _ _ _ => yts_nil) (fun _ _ _ _ _ => (y_cal c__law_run hr (ya_cons (y_var 0) (ya_cons (y_var 3) (ya_cons (y_var 2) ya_nil)))))) ya_nil))))))), ?_⟩
  norm_cast
  cases t with
  | e =>
    simp only [Mt.d] at okt ⊢
    simp only [Mt.RunOk] at het
    rw [het] at hq
    push_cast [okt, eqv_nil]
    exact hq
  | w a c =>
    obtain ⟨x, b, i, rfl, hf, hrow⟩ := het
    have hil := hfind hf
    have hv : valD ((idxOf ((sgs labels n).map sk)).map (·.1)) ((idxOf ((sgs labels n).map sk)).map fun p => D.int (p.2 : Nat)) (Sum.inr x, pkey b) = some (.int (i : Nat)) := by
      rw [valD_G (fun j : Nat => D.int (j : Nat)), show (Sum.inr x, pkey b) = sk (x, b) from rfl, hf]
      rfl
    simp only [Mt.size] at hsz
    simp only [Mt.d] at okt ⊢
    unfold lrowsD signD pathD at *
    push_cast [okt, ok0, eqv_nil, keysOf_path, hv]
    refine ⟨ways, labels, n, table, good, c, ev, rfl, htl, by omega, fun s hs => hok s (by rw [Mt.pre]; simp [hs]), fun s hs => hev s (by rw [Mt.pre]; simp [hs]), ?_⟩
    push_cast []
    rw [List.getD_eq_getElem?_getD, List.getElem?_eq_getElem hil] at hrow
    refine ⟨ways, labels, n, table, good, i, table[i], [ev c], _, rfl, List.getElem?_eq_getElem hil, hrow, ?_⟩
    push_cast []
    exact hq
  | t a l r =>
    obtain ⟨x, b, i, rfl, hf, hrow⟩ := het
    have hil := hfind hf
    have hv : valD ((idxOf ((sgs labels n).map sk)).map (·.1)) ((idxOf ((sgs labels n).map sk)).map fun p => D.int (p.2 : Nat)) (Sum.inr x, pkey b) = some (.int (i : Nat)) := by
      rw [valD_G (fun j : Nat => D.int (j : Nat)), show (Sum.inr x, pkey b) = sk (x, b) from rfl, hf]
      rfl
    simp only [Mt.size] at hsz
    simp only [Mt.d] at okt ⊢
    unfold lrowsD signD pathD at *
    push_cast [okt, ok0, eqv_nil, keysOf_path, hv]
    refine ⟨ways, labels, n, table, good, l, ev, rfl, htl, by omega, fun s hs => hok s (by rw [Mt.pre]; simp [hs]), fun s hs => hev s (by rw [Mt.pre]; simp [hs]), ?_⟩
    push_cast []
    refine ⟨ways, labels, n, table, good, r, ev, rfl, htl, by omega, fun s hs => hok s (by rw [Mt.pre]; simp [hs]), fun s hs => hev s (by rw [Mt.pre]; simp [hs]), ?_⟩
    push_cast []
    rw [List.getD_eq_getElem?_getD, List.getElem?_eq_getElem hil] at hrow
    refine ⟨ways, labels, n, table, good, i, table[i], [ev l, ev r], _, rfl, List.getElem?_eq_getElem hil, hrow, ?_⟩
    push_cast []
    exact hq
theorem ok_lrun {k : Nat} (c__law_above : Cal P w K mg base CX0 k "_law_above" ["machine", "row", "children"] (spP K CLAbove)) (Dn : Dfn K mg "_law_run" ["machine", "marked", "rows"] d__law_run) : ∀ N, Cal P w K mg base CX0 (k+N) "_law_run" ["machine", "marked", "rows"] (spP K (CLRun N))
  | 0 => cal_noP Dn fun ds q ⟨ways, labels, n, table, good, t, ev, _, _, h, _⟩ => by omega
  | N + 1 => ok_lrun0 (c__law_above.mono (Nat.le_add_right k N)) (ok_lrun c__law_above Dn N) Dn
end
end Y


set_option Elab.async false
set_option linter.all false
set_option maxRecDepth 100000
set_option maxHeartbeats 2000000
namespace Y
open PySem PySem.Spec PyProof.Rows L2 StX XS XC NdefX
local macro_rules | `(tactic| push_cast [$xs,*]) => `(tactic| repeat (first | (with_reducible first | refine g_c ?_ | (refine g_v ?_; first | refine g_var0 ?_ | refine g_var1 ?_ | refine g_var2 ?_ | refine g_var3 ?_ | refine g_var4 ?_ | refine g_var5 ?_ | refine g_var6 ?_ | refine g_var7 ?_ | refine g_var8 ?_ | refine g_var9 ?_ | refine g_var10 ?_ | refine g_var11 ?_ | refine g_var12 ?_ | refine g_var13 ?_ | refine g_var14 ?_ | refine g_var15 ?_)) | ((with_reducible refine lf_go fun Q hQ => ?_); simp only [FrzAt, sortSD, zipD, rslD, setSortD, finJ, slotsD, ix_dicK, ix_dicT, ix_dicP, in_dicK, in_dicT, in_dicP, pkeyOf, seqD, revSeqD, spreadS, truD, slD, tyOk, appD, popD, extD, itemsOf, negD, putD, putC, sizeC, ty_non, ty_bl, ty_int, ty_str, ty_tup, ty_ktup, ty_lst, ty_pin, kitS, intO, addD, subD, mulD, modD, fdivD, shlD, shrD, bandD, borD, eq_ii, eq_ss, eq_bb, eq_tt, eq_ll, eq_tk, ordD, ltD, leD, gtD, geD, in_tup, in_ktup, in_lst, in_str, in_pin, inSq_str, inSq_int, isND, isNon, isBD, ix_tup, ix_ktup, ix_lst, ix_str, ix_pin, lookC, keyOf, keysOf, valS_nil, valS_cons, putS_nil, putS_cons, mergeS, kgetD, kixD, revD, wipeD, allD, len_tup, len_ktup, len_lst, len_str, len_pin, intD, absD, sumD, boolsD, tupD, listD, listP, dictC, lstOf, sqOf, frzC, allB, allI, allDk, ofString_inj, atI_0, atI_1, atI_2, atI_3, atI_1m1, atI_2m1, atI_2m2, atI_3m1, atI_3m2, atI_4m1, atI_4m2, cut_1, cut_2, cut_to1, cut_to2, cut_none, allD_map, List.map_cons, List.map_nil, List.length_cons, List.length_nil, List.length_append, List.length_map, List.length_set, List.replicate, List.nil_append, List.cons_append, List.append_nil, List.append_assoc, List.getElem?_cons_zero, List.getElem?_cons_succ, List.getElem?_nil, List.set_cons_zero, List.set_cons_succ, List.find?_cons, List.find?_nil, List.any_cons, List.any_nil, List.foldl_cons, List.foldl_nil, List.isEmpty_cons, List.isEmpty_nil, List.dropLast_concat, get_new, get_new1, get_new2, get_new3, set_new, set_new1, set_new2, set_new3, Option.map_some, Option.map_none, Option.isSome_some, Option.isSome_none, Option.some.injEq, Sum.inr.injEq, Sum.inl.injEq, reduceCtorEq, if_true, if_false, ite_true, ite_false, Bool.false_eq_true, Bool.not_true, Bool.not_false, Bool.false_xor, Bool.true_xor, Bool.xor_false, Bool.xor_true, decide_true, decide_false, decide_eq_true_eq, true_and, and_true, false_and, and_false, Bool.or_true, Bool.or_false, Bool.true_or, Bool.false_or, Bool.and_true, Bool.and_false, Bool.true_and, Bool.false_and, not_true_eq_false, not_false_eq_true, Nat.reduceAdd, Nat.reduceSub, Nat.reduceLeDiff, Nat.reduceLT, Nat.reduceEqDiff, Nat.reduceMul, Int.reduceLE, Int.reduceLT, Int.reduceEq, Int.reduceAdd, Int.reduceSub, Int.reduceNeg, Int.reduceMul, Int.reduceToNat, String.reduceEq, String.reduceBEq, reduceIte, Int.cast_ofNat_Int, Nat.zero_add, rng_0, rng_1, rng_2, rng_3, Nat.add_one_sub_one, List.reverse_nil, strsOf_nil, strsOf_cons, strsOf_map, intsOf_nil, intsOf_cons, intsOf_map, List.mem_cons, List.not_mem_nil, or_false, false_or, or_true, true_or, allB_map, allI_map, allB_mapf, allI_mapf, get_newm, allD_app, allD_mapf, isEmpty_snoc, $xs,*]; subst hQ; try dsimp only) | (with_reducible first | refine g_op ?_ | refine g_cons ?_ | refine g_nil ?_ | refine g_test ?_ | refine g_asB ?_ | refine g_true ?_ | refine g_false ?_ | refine g_dec ?_ | refine g_seq ?_ | refine g_un ?_ | refine g_b ?_ | refine g_nt ?_ | refine g_ifS ?_ | refine g_ret ?_ | refine g_next ?_ | (refine g_st ?_; first | refine g_set0 ?_ | refine g_set1 ?_ | refine g_set2 ?_ | refine g_set3 ?_ | refine g_set4 ?_ | refine g_set5 ?_ | refine g_set6 ?_ | refine g_set7 ?_ | refine g_set8 ?_ | refine g_set9 ?_ | refine g_set10 ?_ | refine g_set11 ?_ | refine g_set12 ?_ | refine g_set13 ?_ | refine g_set14 ?_ | refine g_set15 ?_) | (refine g_gn ?_; first | refine g_gn0 ?_ | refine g_gn1 ?_ | refine g_gn2 ?_ | refine g_gn3 ?_ | refine g_gn4 ?_ | refine g_gn5 ?_ | refine g_gn6 ?_ | refine g_gn7 ?_ | refine g_gn8 ?_ | refine g_gn9 ?_ | refine g_gn10 ?_ | refine g_gn11 ?_ | refine g_gn12 ?_ | refine g_gn13 ?_ | refine g_gn14 ?_ | refine g_gn15 ?_) | refine g_lf1 ?_ | refine g_lf2 ?_ | refine g_notTv ?_ | refine g_andT ?_ | refine g_orT ?_ | refine g_notT ?_ | refine g_mt ?_ | refine g_mt0 ?_ | refine g_drop ?_ | refine g_tup ?_ | refine g_lstD ?_ | refine g_lst ?_ | refine g_if ?_ | refine g_call ?_ | refine g_callG ?_ | refine g_callX ?_ | refine g_callGX ?_ | refine g_tru ?_ | refine g_andV ?_ | refine g_orV ?_ | refine g_notV ?_ | refine g_sl ?_ | refine g_noPart ?_ | refine g_part ?_ | refine g_partI ?_ | refine g_chain ?_ | refine g_putS ?_ | refine g_isi ?_ | refine g_star ?_ | refine g_for ?_ | refine g_lc ?_ | refine g_seqI ?_ | refine g_revI ?_ | refine g_rng1 ?_ | refine g_rng2 ?_ | refine g_gNil ?_ | refine g_gCons ?_ | refine g_gTup2 ?_ | refine g_gTup3 ?_ | refine g_gTup4 ?_ | refine g_yes ?_ | refine g_retN ?_ | refine g_break ?_ | refine g_cont ?_ | refine g_finD ?_ | refine g_finD2 ?_ | refine g_finP ?_ | refine g_lcB ?_ | refine g_lcNil ?_ | refine g_lcCons ?_ | refine g_forNil ?_ | refine g_forCons ?_ | refine g_rtP ?_ | refine g_rtPin ?_ | refine g_disp ?_ | refine g_pairs0 ?_ | refine g_pairsS ?_ | refine g_pairsI ?_ | refine g_newK ?_ | refine g_newT ?_ | refine g_newP ?_ | refine g_zipI ?_ | refine g_revrng ?_ | refine g_lcN ?_ | refine g_mid ?_ | refine g_elt ?_ | refine g_lcTNil ?_ | refine g_lcTCons ?_ | refine g_dc ?_ | refine g_dcNil ?_ | refine g_dcCons ?_ | refine g_lam ?_ | refine g_callB ?_ | refine g_frz ?_ | refine g_loc rfl ?_ | refine g_locC rfl ?_) | ((with_reducible refine g_pos ?_ ?_); · first | assumption | rfl | omega) | ((with_reducible refine g_neg ?_ ?_); · first | assumption | omega | decide) | ((with_reducible refine And.intro ?_ ?_); · first | trivial | assumption | omega | exact Or.inr (by decide) | (dsimp only; omega) | (simp only [List.length_append, List.length_cons, List.length_nil, List.length_map, List.length_reverse]; omega) | (simp; done))))
local macro_rules | `(tactic| norm_cast) => `(tactic| ((first | with_reducible refine g_endsG ?_ | with_reducible refine g_endsP ?_); simp only [start_eq, List.map_cons, List.map_nil, List.replicate, List.length_cons, List.length_nil, Nat.reduceAdd, Nat.reduceSub, Nat.zero_add, List.cons_append, List.nil_append]))
theorem for_ld {ts : List D} {gd : TGD} {bd : TSD} {nx bk ct : Env → Sto → Prop} {rt : S → Sto → Prop} {x : XD} {P : Sto → Prop} {ρ : Env} {ω : Sto} (I : List D → Env → Sto → Prop) (h0 : I [] ρ ω)
    (hs : ∀ t done ρ ω (nx' : Env → Sto → Prop), t ∈ ts → (done ++ [t]) <+: ts → I done ρ ω → (∀ ρ' ω', P ω' → I (done ++ [t]) ρ' ω' → nx' ρ' ω') → gd (.d t) ρ ω (fun ρ1 ω1 => bd ⟨nx', rt, nx, nx', x⟩ ρ1 ω1)) (he : ∀ ρ ω, I ts ρ ω → nx ρ ω) : forR gd bd ⟨nx, rt, bk, ct, x⟩ P (ts.map S.d) ρ ω := by
  have := for_l (ts := ts) (fun d => d) I h0 hs he (bk := bk) (ct := ct)
  simpa using this
theorem lc_rngG {n : Nat} {gd : TGD} {td : TTD} {ed : TD} {P : Sto → Prop} {x : XD} {ρ : Env} {ω : Sto} {fin : List S → Sto → Prop} (Q : D → Prop) (J : Sto → Prop) (h0 : J ω) (hn : n < 1000000)
    (hs : ∀ (i : Nat) (acc : List S) (k : List S → Sto → Prop) (ω : Sto), i < n → J ω → acc.length < 1000000 → (∀ d ω', Q d → J ω' → k (acc ++ [.d d]) ω') → gd (.d (.int (i : Nat))) ρ ω (fun ρ1 ω1 => td ρ1 ω1 (fun b ω2 => if b = true then ed ρ1 ω2 (fun y ω3 => acc.length < 1000000 ∧ P ω3 ∧ k (acc ++ [y]) ω3) x else P ω2 ∧ k acc ω2) x))
    (he : ∀ (ds : List D) (ω' : Sto), ds.length = n → (∀ d ∈ ds, Q d) → J ω' → fin (ds.map S.d) ω') : lcR gd td ed ρ P x fin (rngS 0 n) [] ω := by
  have e : rngS 0 n = ((List.range n).map fun i : Nat => D.int (i : Nat)).map S.d := by
    unfold rngS
    rw [List.map_map]
    refine List.map_congr_left fun i _ => ?_
    simp
  rw [e]
  refine lc_ind (fun is acc ω' => ∃ (rest : List Nat) (ds : List D), (∀ i ∈ rest, i < n) ∧ rest.length + ds.length = n ∧ is = (rest.map fun i : Nat => D.int (i : Nat)).map S.d ∧ acc = ds.map S.d ∧ (∀ d ∈ ds, Q d) ∧ J ω') ⟨List.range n, [], fun i hi => List.mem_range.mp hi, by simp, rfl, rfl, by simp, h0⟩ (fun s r acc ω' k h hk => ?_) (fun acc ω' h => ?_)
  · obtain ⟨rest, ds, h1, h2, h3, rfl, h4, h5⟩ := h
    cases rest with
    | nil => simp at h3
    | cons i rest =>
      rw [List.map_cons, List.map_cons] at h3
      obtain ⟨rfl, rfl⟩ := List.cons.inj h3
      rw [List.length_cons] at h2
      refine hs i _ k ω' (h1 i (by simp)) h5 (by rw [List.length_map]; omega) fun d ω2 hq hj => hk _ _ ⟨rest, ds ++ [d], fun i hi => h1 i (by simp [hi]), by rw [List.length_append, List.length_singleton]; omega, rfl, by simp, fun e he => ?_, hj⟩
      rcases List.mem_append.mp he with he | he
      · exact h4 e he
      · rw [List.mem_singleton.mp he]; exact hq
  · obtain ⟨rest, ds, h1, h2, h3, rfl, h4, h5⟩ := h
    cases rest with
    | cons i rest => simp at h3
    | nil => exact he ds ω' (by simpa using h2) h4 h5
/-! ### machines -/
/-- a row for so many ways, each with so many states -/
def okRow (many : Nat) : Nat → D → Bool
  | 0, .int i => decide (0 ≤ i) && decide (i < (many : Int))
  | 0, _ => false
  | l + 1, .tup ds => decide (ds.length = many) && ds.all (okRow many l)
  | _ + 1, _ => false
def isB : D → Bool
  | .bl _ => true
  | _ => false
/-- as it is drawn -/
structure MGood (ways : Int) (labels : List Str) (n many : Nat) (table good : List D) : Prop where
  tl : table.length = (signsL labels n).length
  rows : ∀ r ∈ table, okRow many ways.toNat r = true
  gl : good.length = many
  gb : ∀ g ∈ good, isB g = true
theorem sc__law_draw_machine : FnScope ["tape", "kind", "tracks", "many", "table", "sign", "row", "k", "j"] ["tape", "kind", "tracks", "many"] (defScope d__law_draw_machine) := ⟨rfl, rfl, rfl, by decide +kernel, rfl, by decide +kernel, by decide +kernel⟩
def GDraw : CG := fun ss ω q => ∃ (j : Nat) (c : Cell) (ways : Int) (labels : List Str) (n many : Nat), ss = [.pin j, .d (kindD ways labels), .d (.int (n : Nat)), .d (.int (many : Nat))] ∧ ω[j]? = some c ∧ Tp c ∧ (ways = 1 ∨ ways = 2) ∧ labels.length ≤ 4 ∧ n ≤ 3 ∧ 1 ≤ many ∧ many ≤ 5 ∧
  ∀ table good c' x, MGood ways labels n many table good → Tp c' → q (.d (machD ways labels n table good)) (ω.set j c' ++ [x])
/-- the store with the tape's new state -/
structure TpW (ω : Sto) (j : Nat) (ω1 : Sto) (c : Cell) : Prop where
  tp : Tp c
  len : ω1.length = ω.length
  at_ : ω1[j]? = some c
  set : ∀ e, ω1.set j e = ω.set j e
theorem TpW.start {ω : Sto} {j : Nat} {c : Cell} (h : ω[j]? = some c) (hc : Tp c) : TpW ω j ω c := ⟨hc, rfl, h, fun _ => rfl⟩
theorem TpW.take {ω ω1 : Sto} {j : Nat} {c c' : Cell} (h : TpW ω j ω1 c) (hc : Tp c') : TpW ω j (ω1.set j c') c' :=
  ⟨hc, by rw [List.length_set, h.len], by rw [List.getElem?_set_self (List.getElem?_eq_some_iff.mp h.at_).1], fun e => by rw [List.set_set, h.set]⟩
theorem TpW.get {ω ω1 : Sto} {j : Nat} {c : Cell} (h : TpW ω j ω1 c) {m : Sto} : (ω1 ++ m)[j]? = some c := by
  rw [List.getElem?_append_left (List.getElem?_eq_some_iff.mp h.at_).1, h.at_]
theorem TpW.put {ω ω1 : Sto} {j : Nat} {c e : Cell} (h : TpW ω j ω1 c) {m : Sto} : (ω1 ++ m).set j e = ω1.set j e ++ m := List.set_append_left _ _ (List.getElem?_eq_some_iff.mp h.at_).1
theorem TpW.new {ω ω1 : Sto} {j : Nat} {c a : Cell} (h : TpW ω j ω1 c) {m : Sto} : (ω1 ++ a :: m)[ω.length]? = some a := by rw [← h.len]; simp
theorem TpW.putN {ω ω1 : Sto} {j : Nat} {c a e : Cell} (h : TpW ω j ω1 c) {m : Sto} : (ω1 ++ a :: m).set ω.length e = ω1 ++ e :: m := by rw [← h.len]; simp
section
variable {P : Program} {w : World} [Tb w] {K : PySem.W.Frag} {mg : Str → Option Value} {base : Heap}
theorem ok_draw {k : Nat} (bu : Bu mg) (c__law_take : Cal P w K mg base CX0 k "_law_take" ["tape", "many"] (spG K GTake)) (c__law_signs : Cal P w K mg base CX0 k "_law_signs" ["kind", "tracks"] (spP K CLSigns)) (Dn : Dfn K mg "_law_draw_machine" ["tape", "kind", "tracks", "many"] d__law_draw_machine) : Cal P w K mg base CX0 (k+1) "_law_draw_machine" ["tape", "kind", "tracks", "many"] (spG K GDraw) := by
  refine calG Dn sc__law_draw_machine (fun ss ω q h => ?_) fun f cdv A outer s H E ss ω q hr h => ?_
  · obtain ⟨j, c, ways, labels, n, many, rfl, _⟩ := h
    rfl
  have hu := hu_of hr
  have hu64 := hr.units
  have hpass := @PassesOwn.never
  obtain ⟨j, c, ways, labels, n, many, rfl, hj, hc, hw, hll, hn, hm1, hm2, hq⟩ := h
  have hjl := (List.getElem?_eq_some_iff.mp hj).1
  refine ⟨_, _, (ys_cons (y_set (i := 4) sc__law_draw_machine.nd rfl (y_lst ya_nil))
      (ys_cons (y_for hpass rfl (yi_seq (y_cal c__law_signs hr (ya_cons (y_var 1) (ya_cons (y_var 2) ya_nil)))) (yg_name (i := 5) sc__law_draw_machine.nd rfl) (ys_cons (y_setLc finD_ok (i := 6) (own := [("k", 7)]) rfl sc__law_draw_machine.nd rfl rfl (sw_true rfl rfl rfl (by decide +kernel)) (yi_range1 bu.range (ya_cons (y_var 3) ya_nil)) (blkOk_by (own := [("k", 7)]) (N := ["tape", "kind", "tracks", "many", "table", "sign", "row", "k", "j"]) (sc := defScope d__law_draw_machine) (by decide +kernel)) go_name (fun _ _ _ _ _ => (yg_name (i := 7) sc__law_draw_machine.nd rfl)) (fun _ _ _ _ _ => yts_nil) (fun _ _ _ _ _ => (y_calG c__law_take hr (ya_cons (y_var 0) (ya_cons (y_var 3) ya_nil)))))
        (ys_cons (y_ifS (yt_cmp (op_eqY hu64) refO_eq (y_ix hu (y_var 1) y_int (fun _ _ => rfl)) y_int (nomark _)) (ys_one (y_setLc finD_ok (i := 6) (own := [("j", 8)]) rfl sc__law_draw_machine.nd rfl rfl (sw_true rfl rfl rfl (by decide +kernel)) (yi_range1 bu.range (ya_cons (y_var 3) ya_nil)) (blkOk_by (own := [("j", 8)]) (N := ["tape", "kind", "tracks", "many", "table", "sign", "row", "k", "j"]) (sc := defScope d__law_draw_machine) (by decide +kernel)) go_name (fun _ _ _ _ _ => (yg_name (i := 8) sc__law_draw_machine.nd rfl)) (fun _ _ _ _ _ => yts_nil) (fun _ _ _ _ _ => (y_tupC bu (ya_cons (y_lcD (own := [("k", 7)]) rfl sc__law_draw_machine.nd (yi_range1 bu.range (ya_cons (y_var 3) ya_nil)) (blkOk_by (own := [("k", 7)]) (N := ["tape", "kind", "tracks", "many", "table", "sign", "row", "k", "j"]) (by kernel_rfl)) go_name (fun _ _ _ _ _ => (yg_name (i := 7) sc__law_draw_machine.nd rfl)) (fun _ _ _ _ _ => yts_nil) (fun _ _ _ _ _ => (y_calG c__law_take hr (ya_cons (y_var 0) (ya_cons (y_var 3) ya_nil))))) ya_nil))))) ys_nil)
        (ys_one (y_expr (y_append (y_var 4) (ya_cons (y_tupC bu (ya_cons (y_var 6) ya_nil)) ya_nil)))))))
      (ys_one (y_ret (y_tup (ya_cons (y_var 1) (ya_cons (y_var 2) (ya_cons (y_tupC bu (ya_cons (y_var 4) ya_nil)) (ya_cons (y_tupC bu (ya_cons (y_lcD (own := [("k", 7)]) rfl sc__law_draw_machine.nd (yi_range1 bu.range (ya_cons (y_var 3) ya_nil)) (blkOk_by (own := [("k", 7)]) (N := ["tape", "kind", "tracks", "many", "table", "sign", "row", "k", "j"]) (sc := defScope d__law_draw_machine) (by decide +kernel)) go_name (fun _ _ _ _ _ => (yg_name (i := 7) sc__law_draw_machine.nd rfl)) (fun _ _ _ _ _ => yts_nil) (fun _ _ _ _ _ => (y_cmp (op_eqY hu64) refO_eq (y_calG c__law_take hr (ya_cons (y_var 0) (ya_cons y_int ya_nil))) y_int (nomark _)))) ya_nil)) ya_nil))))))))), ?_⟩
  have h62 : int62 (many : Nat) := ⟨by omega, by omega⟩
  have hsl := signs_len labels n
  have hle : labels.length * 2 ^ n ≤ 4 * 8 := Nat.mul_le_mul hll (pow3 hn)
  norm_cast
  push_cast []
  refine ⟨ways, labels, n, rfl, hll, hn, ?_⟩
  push_cast []
  have wI : ∀ z : Int, 0 ≤ z → z < (many : Nat) → okRow many 0 (.int z) = true := fun z h1 h2 => by simp [okRow, h1, h2]
  refine for_ld (ts := signsL labels n) (fun done ρ ω' => ∃ (rows : List D) (ω1 : Sto) (c' : Cell) (y z v u : Option S), ρ = [some (.pin j), some (.d (kindD ways labels)), some (.d (.int (n : Nat))), some (.d (.int (many : Nat))), some (.pin ω.length), y, z, v, u] ∧ ω' = ω1 ++ [.lst (rows.map S.d)] ∧ TpW ω j ω1 c' ∧ rows.length = done.length ∧ ∀ r ∈ rows, okRow many ways.toNat r = true) ⟨[], ω, c, none, none, none, none, rfl, rfl, .start hj hc, rfl, by simp⟩ (fun t done ρ ω' nx' ht hpre h hnx => ?_) (fun ρ ω' h => ?_)
  · obtain ⟨rows, ω1, c', y, z, v, u, rfl, rfl, hW, hrl, hrk⟩ := h
    have hpl := hpre.length_le
    rw [List.length_append, List.length_singleton] at hpl
    have hrl2 : rows.length < 900000 := by omega
    push_cast []
    refine lc_rngG (n := ((many : Nat) : Int).toNat) (fun d => okRow many 0 d = true) (fun ω' => ∃ ω1 c', ω' = ω1 ++ [.lst (rows.map S.d)] ∧ TpW ω j ω1 c') ⟨ω1, c', rfl, hW⟩ (by omega) (fun i acc k ω' hi hJ hal hk => ?_) (fun ds ω' hdl hdq hJ => ?_)
    · obtain ⟨ω1, c', rfl, hW⟩ := hJ
      push_cast []
      refine ⟨j, (many : Nat), c', rfl, hW.get, hW.tp, by omega, by omega, fun z c2 hc2 h0 h1 => ?_⟩
      refine ⟨hal, trivial, hk _ _ (wI z h0 h1) ?_⟩
      exact ⟨ω1.set j c2, c2, hW.put, hW.take hc2⟩
    · obtain ⟨ω1, c', rfl, hW⟩ := hJ
      rw [Int.toNat_natCast] at hdl
      have hnw := hW.new (a := .lst (rows.map S.d)) (m := [])
      unfold kindD
      rcases hw with rfl | rfl
      · push_cast [hnw, hW.putN]
        refine hnx _ _ trivial ⟨rows ++ [.tup ds], ω1, c', _, _, _, _, rfl, by simp, hW, by simp [hrl], fun r hr => ?_⟩
        rcases List.mem_append.mp hr with hr | hr
        · exact hrk r hr
        · rw [List.mem_singleton.mp hr, show (1 : Int).toNat = 0 + 1 from rfl, okRow]
          simp [hdl]
          exact hdq
      · push_cast [hnw, hW.putN]
        refine lc_rngG (n := ((many : Nat) : Int).toNat) (fun d => okRow many 1 d = true) (fun ω' => ∃ ω1 c', ω' = ω1 ++ [.lst (rows.map S.d)] ∧ TpW ω j ω1 c') ⟨ω1, c', rfl, hW⟩ (by omega) (fun i acc k ω' hi hJ hal hk => ?_) (fun ds2 ω' hdl2 hdq2 hJ => ?_)
        · obtain ⟨ω1, c', rfl, hW⟩ := hJ
          push_cast []
          refine lc_rngG (n := ((many : Nat) : Int).toNat) (fun d => okRow many 0 d = true) (fun ω' => ∃ ω1 c', ω' = ω1 ++ [.lst (rows.map S.d)] ∧ TpW ω j ω1 c') ⟨ω1, c', rfl, hW⟩ (by omega) (fun i acc2 k2 ω' hi hJ hal2 hk2 => ?_) (fun ds3 ω' hdl3 hdq3 hJ => ?_)
          · obtain ⟨ω1, c', rfl, hW⟩ := hJ
            push_cast []
            refine ⟨j, (many : Nat), c', rfl, hW.get, hW.tp, by omega, by omega, fun z c2 hc2 h0 h1 => ?_⟩
            refine ⟨hal2, trivial, hk2 _ _ (wI z h0 h1) ?_⟩
            exact ⟨ω1.set j c2, c2, hW.put, hW.take hc2⟩
          · obtain ⟨ω1, c', rfl, hW⟩ := hJ
            rw [Int.toNat_natCast] at hdl3
            push_cast []
            refine hk _ _ ?_ ⟨ω1, c', rfl, hW⟩
            rw [show (1 : Nat) = 0 + 1 from rfl, okRow]
            simp [hdl3]
            exact hdq3
        · obtain ⟨ω1, c', rfl, hW⟩ := hJ
          rw [Int.toNat_natCast] at hdl2
          have hnw := hW.new (a := .lst (rows.map S.d)) (m := [])
          push_cast [hnw, hW.putN]
          refine hnx _ _ trivial ⟨rows ++ [.tup ds2], ω1, c', _, _, _, _, rfl, by simp, hW, by simp [hrl], fun r hr => ?_⟩
          rcases List.mem_append.mp hr with hr | hr
          · exact hrk r hr
          · rw [List.mem_singleton.mp hr, show (2 : Int).toNat = 1 + 1 from rfl, okRow]
            simp [hdl2]
            exact hdq2
  · obtain ⟨rows, ω1, c', y, z, v, u, rfl, rfl, hW, hrl, hrk⟩ := h
    have hnw := hW.new (a := .lst (rows.map S.d)) (m := [])
    push_cast [hnw]
    refine lc_rngG (n := ((many : Nat) : Int).toNat) (fun d => isB d = true) (fun ω' => ∃ ω1 c', ω' = ω1 ++ [.lst (rows.map S.d)] ∧ TpW ω j ω1 c') ⟨ω1, c', rfl, hW⟩ (by omega) (fun i acc k ω' hi hJ hal hk => ?_) (fun ds ω' hdl hdq hJ => ?_)
    · obtain ⟨ω1, c', rfl, hW⟩ := hJ
      push_cast []
      refine ⟨j, 2, c', rfl, hW.get, hW.tp, by omega, by omega, fun z c2 hc2 h0 h1 => ?_⟩
      push_cast []
      refine hk _ _ rfl ?_
      exact ⟨ω1.set j c2, c2, hW.put, hW.take hc2⟩
    · obtain ⟨ω1, c', rfl, hW⟩ := hJ
      rw [Int.toNat_natCast] at hdl
      push_cast []
      have := hq rows ds c' (.lst (rows.map S.d)) ⟨hrl, hrk, hdl, hdq⟩ hW.tp
      rw [← hW.set] at this
      rw [← set_same hW.at_] at this
      exact this
end
end Y


set_option Elab.async false
set_option linter.all false
set_option maxRecDepth 100000
set_option maxHeartbeats 2000000
namespace Y
open PySem PySem.Spec PyProof.Rows L2 StX XS XC NdefX
local macro_rules | `(tactic| push_cast [$xs,*]) => `(tactic| repeat (first | (with_reducible first | refine g_c ?_ | (refine g_v ?_; first | refine g_var0 ?_ | refine g_var1 ?_ | refine g_var2 ?_ | refine g_var3 ?_ | refine g_var4 ?_ | refine g_var5 ?_ | refine g_var6 ?_ | refine g_var7 ?_ | refine g_var8 ?_ | refine g_var9 ?_ | refine g_var10 ?_ | refine g_var11 ?_ | refine g_var12 ?_ | refine g_var13 ?_ | refine g_var14 ?_ | refine g_var15 ?_)) | ((with_reducible refine lf_go fun Q hQ => ?_); simp only [FrzAt, sortSD, zipD, rslD, setSortD, finJ, slotsD, ix_dicK, ix_dicT, ix_dicP, in_dicK, in_dicT, in_dicP, pkeyOf, seqD, revSeqD, spreadS, truD, slD, tyOk, appD, popD, extD, itemsOf, negD, putD, putC, sizeC, ty_non, ty_bl, ty_int, ty_str, ty_tup, ty_ktup, ty_lst, ty_pin, kitS, intO, addD, subD, mulD, modD, fdivD, shlD, shrD, bandD, borD, eq_ii, eq_ss, eq_bb, eq_tt, eq_ll, eq_tk, ordD, ltD, leD, gtD, geD, in_tup, in_ktup, in_lst, in_str, in_pin, inSq_str, inSq_int, isND, isNon, isBD, ix_tup, ix_ktup, ix_lst, ix_str, ix_pin, lookC, keyOf, keysOf, valS_nil, valS_cons, putS_nil, putS_cons, mergeS, kgetD, kixD, revD, wipeD, allD, len_tup, len_ktup, len_lst, len_str, len_pin, intD, absD, sumD, boolsD, tupD, listD, listP, dictC, lstOf, sqOf, frzC, allB, allI, allDk, ofString_inj, atI_0, atI_1, atI_2, atI_3, atI_1m1, atI_2m1, atI_2m2, atI_3m1, atI_3m2, atI_4m1, atI_4m2, cut_1, cut_2, cut_to1, cut_to2, cut_none, allD_map, List.map_cons, List.map_nil, List.length_cons, List.length_nil, List.length_append, List.length_map, List.length_set, List.replicate, List.nil_append, List.cons_append, List.append_nil, List.append_assoc, List.getElem?_cons_zero, List.getElem?_cons_succ, List.getElem?_nil, List.set_cons_zero, List.set_cons_succ, List.find?_cons, List.find?_nil, List.any_cons, List.any_nil, List.foldl_cons, List.foldl_nil, List.isEmpty_cons, List.isEmpty_nil, List.dropLast_concat, get_new, get_new1, get_new2, get_new3, set_new, set_new1, set_new2, set_new3, Option.map_some, Option.map_none, Option.isSome_some, Option.isSome_none, Option.some.injEq, Sum.inr.injEq, Sum.inl.injEq, reduceCtorEq, if_true, if_false, ite_true, ite_false, Bool.false_eq_true, Bool.not_true, Bool.not_false, Bool.false_xor, Bool.true_xor, Bool.xor_false, Bool.xor_true, decide_true, decide_false, decide_eq_true_eq, true_and, and_true, false_and, and_false, Bool.or_true, Bool.or_false, Bool.true_or, Bool.false_or, Bool.and_true, Bool.and_false, Bool.true_and, Bool.false_and, not_true_eq_false, not_false_eq_true, Nat.reduceAdd, Nat.reduceSub, Nat.reduceLeDiff, Nat.reduceLT, Nat.reduceEqDiff, Nat.reduceMul, Int.reduceLE, Int.reduceLT, Int.reduceEq, Int.reduceAdd, Int.reduceSub, Int.reduceNeg, Int.reduceMul, Int.reduceToNat, String.reduceEq, String.reduceBEq, reduceIte, Int.cast_ofNat_Int, Nat.zero_add, rng_0, rng_1, rng_2, rng_3, Nat.add_one_sub_one, List.reverse_nil, strsOf_nil, strsOf_cons, strsOf_map, intsOf_nil, intsOf_cons, intsOf_map, List.mem_cons, List.not_mem_nil, or_false, false_or, or_true, true_or, allB_map, allI_map, allB_mapf, allI_mapf, get_newm, allD_app, allD_mapf, isEmpty_snoc, $xs,*]; subst hQ; try dsimp only) | (with_reducible first | refine g_op ?_ | refine g_cons ?_ | refine g_nil ?_ | refine g_test ?_ | refine g_asB ?_ | refine g_true ?_ | refine g_false ?_ | refine g_dec ?_ | refine g_seq ?_ | refine g_un ?_ | refine g_b ?_ | refine g_nt ?_ | refine g_ifS ?_ | refine g_ret ?_ | refine g_next ?_ | (refine g_st ?_; first | refine g_set0 ?_ | refine g_set1 ?_ | refine g_set2 ?_ | refine g_set3 ?_ | refine g_set4 ?_ | refine g_set5 ?_ | refine g_set6 ?_ | refine g_set7 ?_ | refine g_set8 ?_ | refine g_set9 ?_ | refine g_set10 ?_ | refine g_set11 ?_ | refine g_set12 ?_ | refine g_set13 ?_ | refine g_set14 ?_ | refine g_set15 ?_) | (refine g_gn ?_; first | refine g_gn0 ?_ | refine g_gn1 ?_ | refine g_gn2 ?_ | refine g_gn3 ?_ | refine g_gn4 ?_ | refine g_gn5 ?_ | refine g_gn6 ?_ | refine g_gn7 ?_ | refine g_gn8 ?_ | refine g_gn9 ?_ | refine g_gn10 ?_ | refine g_gn11 ?_ | refine g_gn12 ?_ | refine g_gn13 ?_ | refine g_gn14 ?_ | refine g_gn15 ?_) | refine g_lf1 ?_ | refine g_lf2 ?_ | refine g_notTv ?_ | refine g_andT ?_ | refine g_orT ?_ | refine g_notT ?_ | refine g_mt ?_ | refine g_mt0 ?_ | refine g_drop ?_ | refine g_tup ?_ | refine g_lstD ?_ | refine g_lst ?_ | refine g_if ?_ | refine g_call ?_ | refine g_callG ?_ | refine g_callX ?_ | refine g_callGX ?_ | refine g_tru ?_ | refine g_andV ?_ | refine g_orV ?_ | refine g_notV ?_ | refine g_sl ?_ | refine g_noPart ?_ | refine g_part ?_ | refine g_partI ?_ | refine g_chain ?_ | refine g_putS ?_ | refine g_isi ?_ | refine g_star ?_ | refine g_for ?_ | refine g_lc ?_ | refine g_seqI ?_ | refine g_revI ?_ | refine g_rng1 ?_ | refine g_rng2 ?_ | refine g_gNil ?_ | refine g_gCons ?_ | refine g_gTup2 ?_ | refine g_gTup3 ?_ | refine g_gTup4 ?_ | refine g_yes ?_ | refine g_retN ?_ | refine g_break ?_ | refine g_cont ?_ | refine g_finD ?_ | refine g_finD2 ?_ | refine g_finP ?_ | refine g_lcB ?_ | refine g_lcNil ?_ | refine g_lcCons ?_ | refine g_forNil ?_ | refine g_forCons ?_ | refine g_rtP ?_ | refine g_rtPin ?_ | refine g_disp ?_ | refine g_pairs0 ?_ | refine g_pairsS ?_ | refine g_pairsI ?_ | refine g_newK ?_ | refine g_newT ?_ | refine g_newP ?_ | refine g_zipI ?_ | refine g_revrng ?_ | refine g_lcN ?_ | refine g_mid ?_ | refine g_elt ?_ | refine g_lcTNil ?_ | refine g_lcTCons ?_ | refine g_dc ?_ | refine g_dcNil ?_ | refine g_dcCons ?_ | refine g_lam ?_ | refine g_callB ?_ | refine g_frz ?_ | refine g_loc rfl ?_ | refine g_locC rfl ?_) | ((with_reducible refine g_pos ?_ ?_); · first | assumption | rfl | omega) | ((with_reducible refine g_neg ?_ ?_); · first | assumption | omega | decide) | ((with_reducible refine And.intro ?_ ?_); · first | trivial | assumption | omega | exact Or.inr (by decide) | (dsimp only; omega) | (simp only [List.length_append, List.length_cons, List.length_nil, List.length_map, List.length_reverse]; omega) | (simp; done))))
local macro_rules | `(tactic| norm_cast) => `(tactic| ((first | with_reducible refine g_endsG ?_ | with_reducible refine g_endsP ?_); simp only [start_eq, List.map_cons, List.map_nil, List.replicate, List.length_cons, List.length_nil, Nat.reduceAdd, Nat.reduceSub, Nat.zero_add, List.cons_append, List.nil_append]))
/-- ints, bools and tuples of such, so deep -/
def rD : Nat → D → Bool
  | _, .int _ => true
  | _, .bl _ => true
  | n + 1, .tup ds => decide (ds.length ≤ 100) && ds.all (rD n)
  | _, _ => false
theorem rD_clean : ∀ (n : Nat) (d : D), rD n d = true → cleanD (n + 1) d = true
  | n, .int _, _ => by rw [cleanD]
  | n, .bl _, _ => by rw [cleanD]
  | n + 1, .tup ds, h => by
    rw [rD, Bool.and_eq_true, List.all_eq_true] at h
    rw [cleanD]
    exact cleanDs_of fun d hd => rD_clean n d (h.2 d hd)
  | 0, .tup _, h => by simp [rD] at h
  | n, .non, h => by cases n <;> simp [rD] at h
  | n, .str _, h => by cases n <;> simp [rD] at h
  | n, .fn _, h => by cases n <;> simp [rD] at h
  | n, .ktup _, h => by cases n <;> simp [rD] at h
  | n, .lst _, h => by cases n <;> simp [rD] at h
  | n, .klst _, h => by cases n <;> simp [rD] at h
  | n, .dicK _ _, h => by cases n <;> simp [rD] at h
  | n, .dicT _ _, h => by cases n <;> simp [rD] at h
  | n, .dicP _ _, h => by cases n <;> simp [rD] at h
  | n, .clo _ _ _ _ _ _, h => by cases n <;> simp [rD] at h
theorem rD_okL {n : Nat} {ds : List D} (hn : n ≤ 60) (h : ∀ d ∈ ds, rD n d = true) : okD (.lst ds) := okD_of (n := n + 2) (by
  rw [cleanD]
  exact cleanDs_of fun d hd => rD_clean n d (h d hd)) (by omega)
theorem rD_up : ∀ (n : Nat) (d : D), rD n d = true → rD (n + 1) d = true
  | n, .int _, _ => by rw [rD]
  | n, .bl _, _ => by rw [rD]
  | n + 1, .tup ds, h => by
    rw [rD, Bool.and_eq_true, List.all_eq_true] at h ⊢
    exact ⟨h.1, fun d hd => rD_up n d (h.2 d hd)⟩
  | 0, .tup _, h => by simp [rD] at h
  | n, .non, h => by cases n <;> simp [rD] at h
  | n, .str _, h => by cases n <;> simp [rD] at h
  | n, .fn _, h => by cases n <;> simp [rD] at h
  | n, .ktup _, h => by cases n <;> simp [rD] at h
  | n, .lst _, h => by cases n <;> simp [rD] at h
  | n, .klst _, h => by cases n <;> simp [rD] at h
  | n, .dicK _ _, h => by cases n <;> simp [rD] at h
  | n, .dicT _ _, h => by cases n <;> simp [rD] at h
  | n, .dicP _ _, h => by cases n <;> simp [rD] at h
  | n, .clo _ _ _ _ _ _, h => by cases n <;> simp [rD] at h
theorem rD_good : ∀ (n : Nat) (d : D), rD n d = true → goodD (n + 1) d = true
  | n, .int _, _ => by rw [goodD]
  | n, .bl _, _ => by rw [goodD]
  | n + 1, .tup ds, h => by
    rw [rD, Bool.and_eq_true, List.all_eq_true, decide_eq_true_eq] at h
    have : ∀ (l : List D), (∀ d ∈ l, goodD (n + 1) d = true) → goodDs (n + 1) l = true := fun l => by
      induction l with
      | nil => intro _; rw [goodDs]
      | cons a l ih => intro hh; rw [goodDs, hh a (by simp), ih fun d hd => hh d (by simp [hd])]; rfl
    rw [goodD, this ds fun d hd => rD_good n d (h.2 d hd), decide_eq_true (by omega)]
    rfl
  | 0, .tup _, h => by simp [rD] at h
  | n, .non, h => by cases n <;> simp [rD] at h
  | n, .str _, h => by cases n <;> simp [rD] at h
  | n, .fn _, h => by cases n <;> simp [rD] at h
  | n, .ktup _, h => by cases n <;> simp [rD] at h
  | n, .lst _, h => by cases n <;> simp [rD] at h
  | n, .klst _, h => by cases n <;> simp [rD] at h
  | n, .dicK _ _, h => by cases n <;> simp [rD] at h
  | n, .dicT _ _, h => by cases n <;> simp [rD] at h
  | n, .dicP _ _, h => by cases n <;> simp [rD] at h
  | n, .clo _ _ _ _ _ _, h => by cases n <;> simp [rD] at h
theorem sc__is_row : FnScope ["row", "ways", "count", "state", "line"] ["row", "ways", "count"] (defScope d__is_row) := ⟨rfl, rfl, rfl, by decide +kernel, rfl, by decide +kernel, by decide +kernel⟩
theorem sc__law_is_row : FnScope ["value", "many", "levels", "one"] ["value", "many", "levels"] (defScope d__law_is_row) := ⟨rfl, rfl, rfl, by decide +kernel, rfl, by decide +kernel, by decide +kernel⟩
def CIsRow (L : Nat) : CP := fun ds q => ∃ (l many m : Nat) (row : D), ds = [row, .int ((l + 1 : Nat) : Int), .int (many : Nat)] ∧ l < L ∧ l ≤ 5 ∧ rD m row = true ∧ m ≤ 20 ∧ q (.bl (okRow many (l + 1) row))
def CLIsRow (L : Nat) : CP := fun ds q => ∃ (l many m : Nat) (row : D), ds = [row, .int (many : Nat), .int (l : Nat)] ∧ l < L ∧ l ≤ 5 ∧ rD m row = true ∧ m ≤ 20 ∧ q (.bl (okRow many l row))
section
variable {P : Program} {w : World} [Tb w] {K : PySem.W.Frag} {mg : Str → Option Value} {base : Heap}
theorem ok_isrow0 {k L : Nat} (bu : Bu mg) (c_is_whole : Cal P w K mg base CX0 k "is_whole" ["value"] (spP K CWhole)) (c__is_row : Cal P w K mg base CX0 k "_is_row" ["row", "ways", "count"] (spP K (CIsRow L))) (Dn : Dfn K mg "_is_row" ["row", "ways", "count"] d__is_row) : Cal P w K mg base CX0 (k+1) "_is_row" ["row", "ways", "count"] (spP K (CIsRow (L + 1))) := by
  refine calP Dn sc__is_row (fun ds q h => ?_) fun f cdv A outer s H E ds q hr h => ?_
  · obtain ⟨l, many, m, row, rfl, _⟩ := h
    rfl
  have hu := hu_of hr
  have hu64 := hr.units
  obtain ⟨l, many, m, row, rfl, hl, hl5, hrd, hm, hq⟩ := h
  refine ⟨_, _, (ys_cons (y_ifS (yt_w (yw_or (yt_not (yt_tru (y_isi bu (y_var 0) bu.tuple rfl))) (yw_or1 (yt_cmp (op_neY hu64) refO_ne (y_len bu (ya_cons (y_var 0) ya_nil)) (y_var 2) (nomark _))))) (ys_one (y_ret y_bl)) ys_nil)
      (ys_cons (y_ifS (yt_cmp (op_eqY hu64) refO_eq (y_var 1) y_int (nomark _)) (ys_one (y_ret (y_all bu rfl (ya_cons (y_lcD (own := [("state", 3)]) rfl sc__is_row.nd (yi_seq (y_var 0)) (blkOk_by (own := [("state", 3)]) (N := ["row", "ways", "count", "state", "line"]) (sc := defScope d__is_row) (by decide +kernel)) go_name (fun _ _ _ _ _ => (yg_name (i := 3) sc__is_row.nd rfl)) (fun _ _ _ _ _ => yts_nil) (fun _ _ _ _ _ => (y_and (y_cal c_is_whole hr (ya_cons (y_var 3) ya_nil)) (y_one (y_chain op_leY op_ltY refO_ord refO_ord y_int (y_var 3) (y_var 2)))))) ya_nil)))) ys_nil)
      (ys_one (y_ret (y_all bu rfl (ya_cons (y_lcD (own := [("line", 4)]) rfl sc__is_row.nd (yi_seq (y_var 0)) (blkOk_by (own := [("line", 4)]) (N := ["row", "ways", "count", "state", "line"]) (sc := defScope d__is_row) (by decide +kernel)) go_name (fun _ _ _ _ _ => (yg_name (i := 4) sc__is_row.nd rfl)) (fun _ _ _ _ _ => yts_nil) (fun _ _ _ _ _ => (y_cal c__is_row hr (ya_cons (y_var 4) (ya_cons (y_sub (y_var 1) y_int) (ya_cons (y_var 2) ya_nil)))))) ya_nil)))))), ?_⟩
  norm_cast
  cases row with
  | int i =>
    have hq : q (.bl false) := by simpa [okRow] using hq
    push_cast []
    exact hq
  | bl b =>
    have hq : q (.bl false) := by simpa [okRow] using hq
    push_cast []
    exact hq
  | tup ds =>
    cases m with
    | zero => simp [rD] at hrd
    | succ m =>
      rw [rD, Bool.and_eq_true, List.all_eq_true, decide_eq_true_eq] at hrd
      rw [okRow] at hq
      by_cases hlen : ds.length = many
      · subst hlen
        rw [decide_eq_true rfl, Bool.true_and] at hq
        cases l with
        | zero =>
          rw [show ((0 + 1 : Nat) : Int) = 1 from rfl]
          push_cast []
          refine lc_mapD (fun d => .bl (okRow ds.length 0 d)) (by omega) (fun d hd acc k hl2 hk => ?_) ?_
          · have hdr := hrd.2 d hd
            have hk' : ∀ b, b = okRow ds.length 0 d → k (acc ++ [.d (.bl b)]) [] := fun b e => by rw [e]; exact hk
            push_cast []
            refine ⟨d, m + 1, rfl, rD_good m d hdr, ?_⟩
            cases d with
            | int i =>
              push_cast [isI]
              by_cases h0 : 0 ≤ i
              · rw [if_pos h0]
                push_cast []
                exact hk' _ (by simp [okRow, h0])
              · rw [if_neg h0]
                push_cast []
                exact hk' _ (by simp [okRow, h0])
            | bl b =>
              rw [show isI (D.bl b) = false from rfl]
              push_cast []
              exact hk' _ rfl
            | tup es =>
              rw [show isI (D.tup es) = false from rfl]
              push_cast []
              exact hk' _ rfl
            | _ => cases m <;> simp [rD] at hdr
          · push_cast []
            rw [show (ds.map fun d => okRow ds.length 0 d).all id = ds.all (okRow ds.length 0) by rw [List.all_map]; rfl]
            exact hq
        | succ l =>
          have hne : ¬ ((l + 1 + 1 : Nat) : Int) = 1 := by omega
          have hsub : ((l + 1 + 1 : Nat) : Int) - 1 = ((l + 1 : Nat) : Int) := by omega
          push_cast [hne]
          refine lc_mapD (fun d => .bl (okRow ds.length (l + 1) d)) (by omega) (fun d hd acc k hl2 hk => ?_) ?_
          · push_cast [hsub]
            refine ⟨l, ds.length, m, d, rfl, by omega, by omega, hrd.2 d hd, by omega, ?_⟩
            push_cast []
            exact hk
          · push_cast []
            rw [show (ds.map fun d => okRow ds.length (l + 1) d).all id = ds.all (okRow ds.length (l + 1)) by rw [List.all_map]; rfl]
            exact hq
      · rw [decide_eq_false hlen, Bool.false_and] at hq
        have hne : ¬ ((ds.length : Nat) : Int) = (many : Nat) := by omega
        push_cast [hne]
        exact hq
  | _ => cases m <;> simp [rD] at hrd
theorem ok_isrow {k : Nat} (bu : Bu mg) (c_is_whole : Cal P w K mg base CX0 k "is_whole" ["value"] (spP K CWhole)) (Dn : Dfn K mg "_is_row" ["row", "ways", "count"] d__is_row) : ∀ L, Cal P w K mg base CX0 (k+L) "_is_row" ["row", "ways", "count"] (spP K (CIsRow L))
  | 0 => cal_noP Dn fun ds q ⟨l, many, m, row, _, h, _⟩ => by omega
  | L + 1 => ok_isrow0 bu (c_is_whole.mono (Nat.le_add_right k L)) (ok_isrow bu c_is_whole Dn L) Dn
theorem ok_lisrow0 {k L : Nat} (bu : Bu mg) (c__law_is_row : Cal P w K mg base CX0 k "_law_is_row" ["value", "many", "levels"] (spP K (CLIsRow L))) (Dn : Dfn K mg "_law_is_row" ["value", "many", "levels"] d__law_is_row) : Cal P w K mg base CX0 (k+1) "_law_is_row" ["value", "many", "levels"] (spP K (CLIsRow (L + 1))) := by
  refine calP Dn sc__law_is_row (fun ds q h => ?_) fun f cdv A outer s H E ds q hr h => ?_
  · obtain ⟨l, many, m, row, rfl, _⟩ := h
    rfl
  have hu := hu_of hr
  have hu64 := hr.units
  obtain ⟨l, many, m, row, rfl, hl, hl5, hrd, hm, hq⟩ := h
  refine ⟨_, _, (ys_cons (y_ifS (yt_cmp (op_eqY hu64) refO_eq (y_var 2) y_int (nomark _)) (ys_one (y_ret (y_and (y_isi bu (y_var 0) bu.int rfl) (y_and (y_notT (y_isi bu (y_var 0) bu.bool rfl)) (y_one (y_chain op_leY op_ltY refO_ord refO_ord y_int (y_var 0) (y_var 1))))))) ys_nil)
      (ys_cons (y_ifS (yt_w (yw_or (yt_not (yt_tru (y_isi bu (y_var 0) bu.tuple rfl))) (yw_or1 (yt_cmp (op_neY hu64) refO_ne (y_len bu (ya_cons (y_var 0) ya_nil)) (y_var 1) (nomark _))))) (ys_one (y_ret y_bl)) ys_nil)
      (ys_one (y_ret (y_cmp (op_eqY hu64) refO_eq (y_lcD (own := [("one", 3)]) rfl sc__law_is_row.nd (yi_seq (y_var 0)) (blkOk_by (own := [("one", 3)]) (N := ["value", "many", "levels", "one"]) (sc := defScope d__law_is_row) (by decide +kernel)) go_name (fun _ _ _ _ _ => (yg_name (i := 3) sc__law_is_row.nd rfl)) (fun _ _ _ _ _ => (yts_one (yt_not (yt_tru (y_cal c__law_is_row hr (ya_cons (y_var 3) (ya_cons (y_var 1) (ya_cons (y_sub (y_var 2) y_int) ya_nil)))))))) (fun _ _ _ _ _ => (y_var 3))) (y_lstD ya_nil) (nomark _)))))), ?_⟩
  norm_cast
  cases l with
  | zero =>
    rw [show ((0 : Nat) : Int) = 0 from rfl]
    cases row with
    | int i =>
      rw [okRow] at hq
      push_cast []
      by_cases h0 : 0 ≤ i
      · rw [decide_eq_true h0, Bool.true_and] at hq
        rw [if_pos h0]
        push_cast []
        exact hq
      · rw [decide_eq_false h0, Bool.false_and] at hq
        rw [if_neg h0]
        push_cast []
        exact hq
    | bl b =>
      have hq : q (.bl false) := by simpa [okRow] using hq
      push_cast []
      exact hq
    | tup ds =>
      have hq : q (.bl false) := by simpa [okRow] using hq
      push_cast []
      exact hq
    | _ => cases m <;> simp [rD] at hrd
  | succ l =>
    have hne : ¬ ((l + 1 : Nat) : Int) = 0 := by omega
    have hsub : ((l + 1 : Nat) : Int) - 1 = (l : Nat) := by omega
    cases row with
    | int i =>
      have hq : q (.bl false) := by simpa [okRow] using hq
      push_cast [hne]
      exact hq
    | bl b =>
      have hq : q (.bl false) := by simpa [okRow] using hq
      push_cast [hne]
      exact hq
    | tup ds =>
      cases m with
      | zero => simp [rD] at hrd
      | succ m =>
        rw [rD, Bool.and_eq_true, List.all_eq_true, decide_eq_true_eq] at hrd
        rw [okRow] at hq
        by_cases hlen : ds.length = many
        · subst hlen
          rw [decide_eq_true rfl, Bool.true_and] at hq
          push_cast [hne]
          have hfl := List.length_filterMap_le (fun d => if okRow ds.length l d = true then none else some d) ds
          have hre : (((ds.map fun d => d).map S.d) : List S) = ds.map S.d := by simp
          rw [← hre]
          refine lc_filG (ts := ds) (fun d => d) (fun d => if okRow ds.length l d = true then none else some d) (by omega) (fun d hd acc k hl2 hk => ?_) ?_
          · push_cast [hsub]
            refine ⟨l, ds.length, m, d, rfl, by omega, by omega, hrd.2 d hd, by omega, ?_⟩
            cases e : okRow ds.length l d with
            | true =>
              rw [e] at hk
              push_cast []
              exact hk
            | false =>
              rw [e] at hk
              push_cast []
              exact hk
          · have o1 : okD (.lst (ds.filterMap fun d => if okRow ds.length l d = true then none else some d)) := rD_okL (n := m) (by omega) fun d hd => by
              obtain ⟨e, he, h2⟩ := List.mem_filterMap.mp hd
              split at h2
              · cases h2
              · cases h2; exact hrd.2 _ he
            have o2 : okD (.lst []) := rD_okL (n := m) (by omega) (by simp)
            have hb : (ds.filterMap fun d => if okRow ds.length l d = true then none else some d).isEmpty = ds.all (okRow ds.length l) := by
              rw [Bool.eq_iff_iff, List.isEmpty_iff, List.filterMap_eq_nil_iff, List.all_eq_true]
              refine forall_congr' fun d => forall_congr' fun _ => ?_
              by_cases h : okRow ds.length l d = true <;> simp [h]
            push_cast [o1, o2, eqv_nilL]
            rw [hb]
            exact hq
        · rw [decide_eq_false hlen, Bool.false_and] at hq
          have hne2 : ¬ ((ds.length : Nat) : Int) = (many : Nat) := by omega
          push_cast [hne, hne2]
          exact hq
    | _ => cases m <;> simp [rD] at hrd
theorem ok_lisrow {k : Nat} (bu : Bu mg) (Dn : Dfn K mg "_law_is_row" ["value", "many", "levels"] d__law_is_row) : ∀ L, Cal P w K mg base CX0 (k+L) "_law_is_row" ["value", "many", "levels"] (spP K (CLIsRow L))
  | 0 => cal_noP Dn fun ds q ⟨l, many, m, row, _, h, _⟩ => by omega
  | L + 1 => ok_lisrow0 bu (ok_lisrow bu Dn L) Dn
end
end Y


set_option Elab.async false
set_option linter.all false
set_option maxRecDepth 100000
set_option maxHeartbeats 2000000
namespace Y
open PySem PySem.Spec PyProof.Rows L2 StX XS XC NdefX
local macro_rules | `(tactic| push_cast [$xs,*]) => `(tactic| repeat (first | (with_reducible first | refine g_c ?_ | (refine g_v ?_; first | refine g_var0 ?_ | refine g_var1 ?_ | refine g_var2 ?_ | refine g_var3 ?_ | refine g_var4 ?_ | refine g_var5 ?_ | refine g_var6 ?_ | refine g_var7 ?_ | refine g_var8 ?_ | refine g_var9 ?_ | refine g_var10 ?_ | refine g_var11 ?_ | refine g_var12 ?_ | refine g_var13 ?_ | refine g_var14 ?_ | refine g_var15 ?_)) | ((with_reducible refine lf_go fun Q hQ => ?_); simp only [FrzAt, sortSD, zipD, rslD, setSortD, finJ, slotsD, ix_dicK, ix_dicT, ix_dicP, in_dicK, in_dicT, in_dicP, pkeyOf, seqD, revSeqD, spreadS, truD, slD, tyOk, appD, popD, extD, itemsOf, negD, putD, putC, sizeC, ty_non, ty_bl, ty_int, ty_str, ty_tup, ty_ktup, ty_lst, ty_pin, kitS, intO, addD, subD, mulD, modD, fdivD, shlD, shrD, bandD, borD, eq_ii, eq_ss, eq_bb, eq_tt, eq_ll, eq_tk, ordD, ltD, leD, gtD, geD, in_tup, in_ktup, in_lst, in_str, in_pin, inSq_str, inSq_int, isND, isNon, isBD, ix_tup, ix_ktup, ix_lst, ix_str, ix_pin, lookC, keyOf, keysOf, valS_nil, valS_cons, putS_nil, putS_cons, mergeS, kgetD, kixD, revD, wipeD, allD, len_tup, len_ktup, len_lst, len_str, len_pin, intD, absD, sumD, boolsD, tupD, listD, listP, dictC, lstOf, sqOf, frzC, allB, allI, allDk, ofString_inj, atI_0, atI_1, atI_2, atI_3, atI_1m1, atI_2m1, atI_2m2, atI_3m1, atI_3m2, atI_4m1, atI_4m2, cut_1, cut_2, cut_to1, cut_to2, cut_none, allD_map, List.map_cons, List.map_nil, List.length_cons, List.length_nil, List.length_append, List.length_map, List.length_set, List.replicate, List.nil_append, List.cons_append, List.append_nil, List.append_assoc, List.getElem?_cons_zero, List.getElem?_cons_succ, List.getElem?_nil, List.set_cons_zero, List.set_cons_succ, List.find?_cons, List.find?_nil, List.any_cons, List.any_nil, List.foldl_cons, List.foldl_nil, List.isEmpty_cons, List.isEmpty_nil, List.dropLast_concat, get_new, get_new1, get_new2, get_new3, set_new, set_new1, set_new2, set_new3, Option.map_some, Option.map_none, Option.isSome_some, Option.isSome_none, Option.some.injEq, Sum.inr.injEq, Sum.inl.injEq, reduceCtorEq, if_true, if_false, ite_true, ite_false, Bool.false_eq_true, Bool.not_true, Bool.not_false, Bool.false_xor, Bool.true_xor, Bool.xor_false, Bool.xor_true, decide_true, decide_false, decide_eq_true_eq, true_and, and_true, false_and, and_false, Bool.or_true, Bool.or_false, Bool.true_or, Bool.false_or, Bool.and_true, Bool.and_false, Bool.true_and, Bool.false_and, not_true_eq_false, not_false_eq_true, Nat.reduceAdd, Nat.reduceSub, Nat.reduceLeDiff, Nat.reduceLT, Nat.reduceEqDiff, Nat.reduceMul, Int.reduceLE, Int.reduceLT, Int.reduceEq, Int.reduceAdd, Int.reduceSub, Int.reduceNeg, Int.reduceMul, Int.reduceToNat, String.reduceEq, String.reduceBEq, reduceIte, Int.cast_ofNat_Int, Nat.zero_add, rng_0, rng_1, rng_2, rng_3, Nat.add_one_sub_one, List.reverse_nil, strsOf_nil, strsOf_cons, strsOf_map, intsOf_nil, intsOf_cons, intsOf_map, List.mem_cons, List.not_mem_nil, or_false, false_or, or_true, true_or, allB_map, allI_map, allB_mapf, allI_mapf, get_newm, allD_app, allD_mapf, isEmpty_snoc, $xs,*]; subst hQ; try dsimp only) | (with_reducible first | refine g_op ?_ | refine g_cons ?_ | refine g_nil ?_ | refine g_test ?_ | refine g_asB ?_ | refine g_true ?_ | refine g_false ?_ | refine g_dec ?_ | refine g_seq ?_ | refine g_un ?_ | refine g_b ?_ | refine g_nt ?_ | refine g_ifS ?_ | refine g_ret ?_ | refine g_next ?_ | (refine g_st ?_; first | refine g_set0 ?_ | refine g_set1 ?_ | refine g_set2 ?_ | refine g_set3 ?_ | refine g_set4 ?_ | refine g_set5 ?_ | refine g_set6 ?_ | refine g_set7 ?_ | refine g_set8 ?_ | refine g_set9 ?_ | refine g_set10 ?_ | refine g_set11 ?_ | refine g_set12 ?_ | refine g_set13 ?_ | refine g_set14 ?_ | refine g_set15 ?_) | (refine g_gn ?_; first | refine g_gn0 ?_ | refine g_gn1 ?_ | refine g_gn2 ?_ | refine g_gn3 ?_ | refine g_gn4 ?_ | refine g_gn5 ?_ | refine g_gn6 ?_ | refine g_gn7 ?_ | refine g_gn8 ?_ | refine g_gn9 ?_ | refine g_gn10 ?_ | refine g_gn11 ?_ | refine g_gn12 ?_ | refine g_gn13 ?_ | refine g_gn14 ?_ | refine g_gn15 ?_) | refine g_lf1 ?_ | refine g_lf2 ?_ | refine g_notTv ?_ | refine g_andT ?_ | refine g_orT ?_ | refine g_notT ?_ | refine g_mt ?_ | refine g_mt0 ?_ | refine g_drop ?_ | refine g_tup ?_ | refine g_lstD ?_ | refine g_lst ?_ | refine g_if ?_ | refine g_call ?_ | refine g_callG ?_ | refine g_callX ?_ | refine g_callGX ?_ | refine g_tru ?_ | refine g_andV ?_ | refine g_orV ?_ | refine g_notV ?_ | refine g_sl ?_ | refine g_noPart ?_ | refine g_part ?_ | refine g_partI ?_ | refine g_chain ?_ | refine g_putS ?_ | refine g_isi ?_ | refine g_star ?_ | refine g_for ?_ | refine g_lc ?_ | refine g_seqI ?_ | refine g_revI ?_ | refine g_rng1 ?_ | refine g_rng2 ?_ | refine g_gNil ?_ | refine g_gCons ?_ | refine g_gTup2 ?_ | refine g_gTup3 ?_ | refine g_gTup4 ?_ | refine g_yes ?_ | refine g_retN ?_ | refine g_break ?_ | refine g_cont ?_ | refine g_finD ?_ | refine g_finD2 ?_ | refine g_finP ?_ | refine g_lcB ?_ | refine g_lcNil ?_ | refine g_lcCons ?_ | refine g_forNil ?_ | refine g_forCons ?_ | refine g_rtP ?_ | refine g_rtPin ?_ | refine g_disp ?_ | refine g_pairs0 ?_ | refine g_pairsS ?_ | refine g_pairsI ?_ | refine g_newK ?_ | refine g_newT ?_ | refine g_newP ?_ | refine g_zipI ?_ | refine g_revrng ?_ | refine g_lcN ?_ | refine g_mid ?_ | refine g_elt ?_ | refine g_lcTNil ?_ | refine g_lcTCons ?_ | refine g_dc ?_ | refine g_dcNil ?_ | refine g_dcCons ?_ | refine g_lam ?_ | refine g_callB ?_ | refine g_frz ?_ | refine g_loc rfl ?_ | refine g_locC rfl ?_) | ((with_reducible refine g_pos ?_ ?_); · first | assumption | rfl | omega) | ((with_reducible refine g_neg ?_ ?_); · first | assumption | omega | decide) | ((with_reducible refine And.intro ?_ ?_); · first | trivial | assumption | omega | exact Or.inr (by decide) | (dsimp only; omega) | (simp only [List.length_append, List.length_cons, List.length_nil, List.length_map, List.length_reverse]; omega) | (simp; done))))
local macro_rules | `(tactic| norm_cast) => `(tactic| ((first | with_reducible refine g_endsG ?_ | with_reducible refine g_endsP ?_); simp only [start_eq, List.map_cons, List.map_nil, List.replicate, List.length_cons, List.length_nil, Nat.reduceAdd, Nat.reduceSub, Nat.zero_add, List.cons_append, List.nil_append]))
theorem sc_is_machine : FnScope ["value", "kind", "tracks", "table", "good", "truth", "row"] ["value"] (defScope d_is_machine) := ⟨rfl, rfl, rfl, by decide +kernel, rfl, by decide +kernel, by decide +kernel⟩
theorem sc__law_is_machine : FnScope ["value", "kind", "tracks", "table", "good", "labels", "k", "one", "row"] ["value"] (defScope d__law_is_machine) := ⟨rfl, rfl, rfl, by decide +kernel, rfl, by decide +kernel, by decide +kernel⟩
def gD : D → Bool
  | .int _ => true
  | .bl _ => true
  | _ => false
def okM (ways : Int) (labels : List Str) (n : Nat) (table good : List D) : Bool := kB labels && good.all isB && decide (table.length = (signsL labels n).length) && table.all (okRow good.length ways.toNat)
structure MAny (ways : Int) (labels : List Str) (n : Nat) (table good : List D) : Prop where
  hw : ways = 1 ∨ ways = 2
  hl : labels ∈ LS6
  hn : n ≤ 3
  tl : table.length ≤ 100
  rows : ∀ r ∈ table, rD 5 r = true
  g1 : 1 ≤ good.length
  g2 : good.length ≤ 10
  gd : ∀ g ∈ good, gD g = true
def CIsM : CP := fun ds q => ∃ (ways : Int) (labels : List Str) (n : Nat) (table good : List D), ds = [machD ways labels n table good] ∧ MAny ways labels n table good ∧ q (.bl (okM ways labels n table good))
section
variable {P : Program} {w : World} [Tb w] {K : PySem.W.Frag} {mg : Str → Option Value} {base : Heap}
theorem ok_is_machine {k : Nat} (bu : Bu mg) (m_MOST_TRACKS : KInt mg "MOST_TRACKS" 6) (m_MOST_STATES : KInt mg "MOST_STATES" 300) (c_is_kind : Cal P w K mg base CX0 k "is_kind" ["value"] (spP K CIsKind)) (c_is_whole : Cal P w K mg base CX0 k "is_whole" ["value"] (spP K CWhole)) (c_signs : Cal P w K mg base CX0 k "signs" ["kind", "tracks"] (spP K CSigns)) (c__is_row : Cal P w K mg base CX0 k "_is_row" ["row", "ways", "count"] (spP K (CIsRow 2))) (Dn : Dfn K mg "is_machine" ["value"] d_is_machine) : Cal P w K mg base CX0 (k+1) "is_machine" ["value"] (spP K CIsM) := by
  refine calP Dn sc_is_machine (fun ds q h => ?_) fun f cdv A outer s H E ds q hr h => ?_
  · obtain ⟨ways, labels, n, table, good, rfl, _⟩ := h
    rfl
  have hu := hu_of hr
  have hu64 := hr.units
  obtain ⟨ways, labels, n, table, good, rfl, hm, hq⟩ := h
  obtain ⟨hw, hl, hn, tl, hrows, g1, g2, hgd⟩ := hm
  unfold okM at hq
  refine ⟨_, _, (ys_cons (y_ifS (yt_w (yw_or (yt_not (yt_tru (y_isi bu (y_var 0) bu.tuple rfl))) (yw_or1 (yt_cmp (op_neY hu64) refO_ne (y_len bu (ya_cons (y_var 0) ya_nil)) y_int (nomark _))))) (ys_one (y_ret y_bl)) ys_nil)
      (ys_cons (y_asg (y_var 0) (yg_tup (n := 4) rfl (ygs_cons (yg_name (i := 1) sc_is_machine.nd rfl) (ygs_cons (yg_name (i := 2) sc_is_machine.nd rfl) (ygs_cons (yg_name (i := 3) sc_is_machine.nd rfl) (ygs_cons (yg_name (i := 4) sc_is_machine.nd rfl) ygs_nil))))))
      (ys_cons (y_ifS (yt_w (yw_or (yt_not (yt_tru (y_cal c_is_kind hr (ya_cons (y_var 1) ya_nil)))) (yw_or (yt_not (yt_tru (y_cal c_is_whole hr (ya_cons (y_var 2) ya_nil)))) (yw_or1 (yt_not (yt_chain op_leY op_leY refO_ord refO_ord y_int (y_var 2) (y_cst m_MOST_TRACKS))))))) (ys_one (y_ret y_bl)) ys_nil)
      (ys_cons (y_ifS (yt_w (yw_or (yt_not (yt_tru (y_isi bu (y_var 4) bu.tuple rfl))) (yw_or1 (yt_not (yt_chain op_leY op_leY refO_ord refO_ord y_int (y_len bu (ya_cons (y_var 4) ya_nil)) (y_cst m_MOST_STATES)))))) (ys_one (y_ret y_bl)) ys_nil)
      (ys_cons (y_ifS (yt_not (yt_tru (y_all bu rfl (ya_cons (y_lcD (own := [("truth", 5)]) rfl sc_is_machine.nd (yi_seq (y_var 4)) (blkOk_by (own := [("truth", 5)]) (N := ["value", "kind", "tracks", "table", "good", "truth", "row"]) (sc := defScope d_is_machine) (by decide +kernel)) go_name (fun _ _ _ _ _ => (yg_name (i := 5) sc_is_machine.nd rfl)) (fun _ _ _ _ _ => yts_nil) (fun _ _ _ _ _ => (y_isi bu (y_var 5) bu.bool rfl))) ya_nil)))) (ys_one (y_ret y_bl)) ys_nil)
      (ys_cons (y_ifS (yt_w (yw_or (yt_not (yt_tru (y_isi bu (y_var 3) bu.tuple rfl))) (yw_or1 (yt_cmp (op_neY hu64) refO_ne (y_len bu (ya_cons (y_var 3) ya_nil)) (y_len bu (ya_cons (y_cal c_signs hr (ya_cons (y_var 1) (ya_cons (y_var 2) ya_nil))) ya_nil)) (nomark _))))) (ys_one (y_ret y_bl)) ys_nil)
      (ys_one (y_ret (y_all bu rfl (ya_cons (y_lcD (own := [("row", 6)]) rfl sc_is_machine.nd (yi_seq (y_var 3)) (blkOk_by (own := [("row", 6)]) (N := ["value", "kind", "tracks", "table", "good", "truth", "row"]) (sc := defScope d_is_machine) (by decide +kernel)) go_name (fun _ _ _ _ _ => (yg_name (i := 6) sc_is_machine.nd rfl)) (fun _ _ _ _ _ => yts_nil) (fun _ _ _ _ _ => (y_cal c__is_row hr (ya_cons (y_var 6) (ya_cons (y_ix hu (y_var 1) y_int (fun _ _ => rfl)) (ya_cons (y_len bu (ya_cons (y_var 4) ya_nil)) ya_nil)))))) ya_nil)))))))))), ?_⟩
  unfold machD
  norm_cast
  push_cast []
  refine ⟨ways, labels, rfl, hw, hl, ?_⟩
  cases ek : kB labels with
  | false =>
    rw [ek] at hq
    push_cast []
    exact hq
  | true =>
    rw [ek, Bool.true_and] at hq
    push_cast []
    refine ⟨.int (n : Nat), 1, rfl, rfl, ?_⟩
    push_cast [isI]
    refine lc_mapD (fun d => .bl (isB d)) (by omega) (fun d hd acc k hl2 hk => ?_) ?_
    · have h := hgd d hd
      cases d <;> first | (simp [gD] at h; done) | (push_cast []; exact hk)
    · push_cast []
      have hall : (good.map fun d => isB d).all id = good.all isB := by rw [List.all_map]; rfl
      rw [hall]
      cases eg : good.all isB with
      | false =>
        rw [eg] at hq
        push_cast []
        exact hq
      | true =>
        rw [eg, Bool.true_and] at hq
        push_cast []
        refine ⟨ways, labels, n, rfl, hw, hl, ek, hn, ?_⟩
        by_cases ht : table.length = (signsL labels n).length
        · rw [decide_eq_true ht, Bool.true_and] at hq
          have ht2 : ((table.length : Nat) : Int) = ((signsL labels n).length : Nat) := by rw [ht]
          push_cast [ht2]
          refine lc_mapD (fun d => .bl (okRow good.length ways.toNat d)) (by omega) (fun d hd acc k hl2 hk => ?_) ?_
          · unfold kindD
            push_cast []
            have hwn : ∃ l : Nat, ways = ((l + 1 : Nat) : Int) ∧ l < 2 := by
              rcases hw with rfl | rfl
              · exact ⟨0, rfl, by omega⟩
              · exact ⟨1, rfl, by omega⟩
            obtain ⟨l, e, hl3⟩ := hwn
            refine ⟨l, good.length, 5, d, by rw [e], hl3, by omega, hrows d hd, by omega, ?_⟩
            rw [e, Int.toNat_natCast] at hk
            push_cast []
            exact hk
          · push_cast []
            have hall2 : (table.map fun d => okRow good.length ways.toNat d).all id = table.all (okRow good.length ways.toNat) := by rw [List.all_map]; rfl
            rw [hall2]
            exact hq
        · rw [decide_eq_false ht, Bool.false_and] at hq
          have ht2 : ¬ ((table.length : Nat) : Int) = ((signsL labels n).length : Nat) := by omega
          push_cast [ht2]
          exact hq
theorem gD_r {d : D} (h : gD d = true) : rD 0 d = true := by cases d <;> simp [gD, rD] at h ⊢
theorem ok_lis_machine {k : Nat} (bu : Bu mg) (c__law_signs : Cal P w K mg base CX0 k "_law_signs" ["kind", "tracks"] (spP K CLSigns)) (c__law_is_row : Cal P w K mg base CX0 k "_law_is_row" ["value", "many", "levels"] (spP K (CLIsRow 3))) (Dn : Dfn K mg "_law_is_machine" ["value"] d__law_is_machine) : Cal P w K mg base CX0 (k+1) "_law_is_machine" ["value"] (spP K CIsM) := by
  refine calP Dn sc__law_is_machine (fun ds q h => ?_) fun f cdv A outer s H E ds q hr h => ?_
  · obtain ⟨ways, labels, n, table, good, rfl, _⟩ := h
    rfl
  have hu := hu_of hr
  have hu64 := hr.units
  have hu65 := room65 hr
  obtain ⟨ways, labels, n, table, good, rfl, hm, hq⟩ := h
  obtain ⟨hw, hl, hn, tl, hrows, g1, g2, hgd⟩ := hm
  obtain ⟨k1, k2, k3, k4, k5, k6, k7⟩ := ls6_ok hl
  unfold okM at hq
  rw [ls6_kB hl] at hq
  refine ⟨_, _, (ys_cons (y_asg (y_var 0) (yg_tup (n := 4) rfl (ygs_cons (yg_name (i := 1) sc__law_is_machine.nd rfl) (ygs_cons (yg_name (i := 2) sc__law_is_machine.nd rfl) (ygs_cons (yg_name (i := 3) sc__law_is_machine.nd rfl) (ygs_cons (yg_name (i := 4) sc__law_is_machine.nd rfl) ygs_nil))))))
      (ys_cons (y_ifS (yt_w (yw_or (yt_cmp (op_notInY hu65) refO_in (y_ix hu (y_var 1) y_int (fun _ _ => rfl)) (y_lstD (ya_cons y_int (ya_cons y_int ya_nil))) (by rfl)) (yw_or (yt_not (yt_chain op_leY op_leY refO_ord refO_ord y_int (y_len bu (ya_cons (y_ix hu (y_var 1) y_int (fun _ _ => rfl)) ya_nil)) y_int)) (yw_or (yt_not (yt_chain op_leY op_leY refO_ord refO_ord y_int (y_var 2) y_int)) (yw_or1 (yt_not (yt_chain op_leY op_leY refO_ord refO_ord y_int (y_len bu (ya_cons (y_var 4) ya_nil)) y_int))))))) (ys_one (y_ret y_bl)) ys_nil)
      (ys_cons (y_set (i := 5) sc__law_is_machine.nd rfl (y_listD bu (ya_cons (y_ix hu (y_var 1) y_int (fun _ _ => rfl)) ya_nil)))
      (ys_cons (y_ifS (yt_w (yw_or (yt_cmp (op_neY hu64) refO_ne (y_var 5) (y_sortedS bu (ya_cons (y_var 5) ya_nil)) (nomark _)) (yw_or1 (yt_cmp (op_neY hu64) refO_ne (y_lcD (own := [("k", 6)]) rfl sc__law_is_machine.nd (yi_range2 bu.range (ya_cons y_int (ya_cons (y_len bu (ya_cons (y_var 5) ya_nil)) ya_nil))) (blkOk_by (own := [("k", 6)]) (N := ["value", "kind", "tracks", "table", "good", "labels", "k", "one", "row"]) (sc := defScope d__law_is_machine) (by decide +kernel)) go_name (fun _ _ _ _ _ => (yg_name (i := 6) sc__law_is_machine.nd rfl)) (fun _ _ _ _ _ => (yts_one (yt_cmp (op_eqY hu64) refO_eq (y_ix hu (y_var 5) (y_var 6) (fun _ _ => rfl)) (y_ix hu (y_var 5) (y_sub (y_var 6) y_int) (fun _ _ => rfl)) (nomark _)))) (fun _ _ _ _ _ => (y_var 6))) (y_lstD ya_nil) (nomark _))))) (ys_one (y_ret y_bl)) ys_nil)
      (ys_cons (y_ifS (yt_cmp (op_neY hu64) refO_ne (y_lcD (own := [("one", 7)]) rfl sc__law_is_machine.nd (yi_seq (y_var 5)) (blkOk_by (own := [("one", 7)]) (N := ["value", "kind", "tracks", "table", "good", "labels", "k", "one", "row"]) (sc := defScope d__law_is_machine) (by decide +kernel)) go_name (fun _ _ _ _ _ => (yg_name (i := 7) sc__law_is_machine.nd rfl)) (fun _ _ _ _ _ => (yts_one (yt_w (yw_or (yt_cmp (op_neY hu64) refO_ne (y_len bu (ya_cons (y_var 7) ya_nil)) y_int (nomark _)) (yw_or1 (yt_not (yt_chain op_leY op_leY refO_ord refO_ord y_str (y_var 7) y_str))))))) (fun _ _ _ _ _ => (y_var 7))) (y_lstD ya_nil) (nomark _)) (ys_one (y_ret y_bl)) ys_nil)
      (ys_cons (y_ifS (yt_w (yw_or (yt_cmp (op_neY hu64) refO_ne (y_lcD (own := [("one", 7)]) rfl sc__law_is_machine.nd (yi_seq (y_var 4)) (blkOk_by (own := [("one", 7)]) (N := ["value", "kind", "tracks", "table", "good", "labels", "k", "one", "row"]) (sc := defScope d__law_is_machine) (by decide +kernel)) go_name (fun _ _ _ _ _ => (yg_name (i := 7) sc__law_is_machine.nd rfl)) (fun _ _ _ _ _ => (yts_one (yt_not (yt_tru (y_isi bu (y_var 7) bu.bool rfl))))) (fun _ _ _ _ _ => (y_var 7))) (y_lstD ya_nil) (nomark _)) (yw_or1 (yt_cmp (op_neY hu64) refO_ne (y_len bu (ya_cons (y_var 3) ya_nil)) (y_len bu (ya_cons (y_cal c__law_signs hr (ya_cons (y_var 1) (ya_cons (y_var 2) ya_nil))) ya_nil)) (nomark _))))) (ys_one (y_ret y_bl)) ys_nil)
      (ys_one (y_ret (y_cmp (op_eqY hu64) refO_eq (y_lcD (own := [("row", 8)]) rfl sc__law_is_machine.nd (yi_seq (y_var 3)) (blkOk_by (own := [("row", 8)]) (N := ["value", "kind", "tracks", "table", "good", "labels", "k", "one", "row"]) (sc := defScope d__law_is_machine) (by decide +kernel)) go_name (fun _ _ _ _ _ => (yg_name (i := 8) sc__law_is_machine.nd rfl)) (fun _ _ _ _ _ => (yts_one (yt_not (yt_tru (y_cal c__law_is_row hr (ya_cons (y_var 8) (ya_cons (y_len bu (ya_cons (y_var 4) ya_nil)) (ya_cons (y_ix hu (y_var 1) y_int (fun _ _ => rfl)) ya_nil)))))))) (fun _ _ _ _ _ => (y_var 8))) (y_lstD ya_nil) (nomark _)))))))))), ?_⟩
  unfold machD kindD
  have h62 : int62 1 ∧ int62 ((labels.length : Nat) : Int) := ⟨⟨by decide, by decide⟩, by omega, by omega⟩
  have o0 : okD (.lst []) := rD_okL (n := 0) (by omega) (by simp)
  norm_cast
  by_cases h3 : labels.length ≤ 3
  · rw [decide_eq_true h3, Bool.true_and] at hq
    have h3i : ((labels.length : Nat) : Int) ≤ 3 := by omega
    push_cast [h3i]
    refine ⟨labels, rfl, by omega, fun ys pm sd => ?_⟩
    have e := sorted_perm pm sd k4 k5
    subst e
    have o1 := okD_of (str_clean (fun a ha => (k1 a ha).1) 0) (by omega)
    have o2 := okD_of (str_clean k7 0) (by omega)
    by_cases hs : labels = srt6 labels
    · rw [decide_eq_true hs, Bool.true_and] at hq
      rw [← hs] at k6
      push_cast [o1, o2, eqv_strs, hs.symm]
      refine lc_ind (fun is acc ω' => ω' = [] ∧ acc = [] ∧ ∀ s ∈ is, ∃ i : Nat, s = .d (.int ((i + 1 : Nat) : Int)) ∧ i + 1 < labels.length) ⟨rfl, rfl, fun s hs2 => ?_⟩ (fun s r acc ω' k h hk => ?_) (fun acc ω' h => ?_)
      · unfold rngS at hs2
        obtain ⟨i, hi, rfl⟩ := List.mem_map.mp hs2
        have hi := List.mem_range.mp hi
        exact ⟨i, by rw [show (1 : Int) + (i : Nat) = ((i + 1 : Nat) : Int) by omega], by omega⟩
      · obtain ⟨rfl, rfl, h⟩ := h
        obtain ⟨i, rfl, hi⟩ := h s (by simp)
        have e1 : (labels.map D.str)[i + 1]? = some (.str labels[i + 1]) := by rw [List.getElem?_map, List.getElem?_eq_getElem hi]; rfl
        have e2 : (labels.map D.str)[i]? = some (.str labels[i]) := by rw [List.getElem?_map, List.getElem?_eq_getElem (by omega)]; rfl
        have hsub : ((i + 1 : Nat) : Int) - 1 = (i : Nat) := by omega
        have hne : ¬ labels[i + 1] = labels[i] := fun z => (List.pairwise_iff_getElem.mp k6 i (i + 1) (by omega) hi (by omega)) z.symm
        push_cast [atI_nat, e1, hsub, e2, hne]
        exact hk _ _ ⟨rfl, rfl, fun s hs => h s (by simp [hs])⟩
      · obtain ⟨rfl, rfl, h⟩ := h
        push_cast [o0, eqv_nilL]
        refine lc_filG (ts := labels) D.str (fun _ => none) (by omega) (fun a ha acc k hl2 hk => ?_) ?_
        · obtain ⟨_, hl1, hmem⟩ := k1 a ha
          have hh : ∀ a ∈ (["a", "b", "c", "d", "z"] : List Str), ltS a "a" = false ∧ ltS "z" a = false := by decide +kernel
          obtain ⟨e2, e3⟩ := hh a hmem
          push_cast [hl1, e2, e3]
          exact hk
        · rw [show (labels.filterMap fun _ => (none : Option D)) = [] by simp]
          push_cast [o0, eqv_nilL]
          have hre : (((good.map fun d => d).map S.d) : List S) = good.map S.d := by simp
          rw [← hre]
          refine lc_filG (ts := good) (fun d => d) (fun d => if isB d = true then none else some d) (by omega) (fun d hd acc k hl2 hk => ?_) ?_
          · have h := hgd d hd
            cases d <;> first | (simp [gD] at h; done) | (push_cast []; exact hk)
          · have o3 : okD (.lst (good.filterMap fun d => if isB d = true then none else some d)) := rD_okL (n := 0) (by omega) fun d hd => by
              obtain ⟨e, he, h2⟩ := List.mem_filterMap.mp hd
              split at h2
              · cases h2
              · cases h2; exact gD_r (hgd _ he)
            have hb : (good.filterMap fun d => if isB d = true then none else some d).isEmpty = good.all isB := by
              rw [Bool.eq_iff_iff, List.isEmpty_iff, List.filterMap_eq_nil_iff, List.all_eq_true]
              refine forall_congr' fun d => forall_congr' fun _ => ?_
              by_cases h : isB d = true <;> simp [h]
            cases eg : good.all isB with
            | false =>
              rw [eg] at hq hb
              push_cast [o0, o3, eqv_nilL, hb]
              exact hq
            | true =>
              rw [eg, Bool.true_and] at hq
              rw [eg] at hb
              push_cast [o0, o3, eqv_nilL, hb]
              refine ⟨ways, labels, n, rfl, k3, hn, ?_⟩
              by_cases ht : table.length = (signsL labels n).length
              · rw [decide_eq_true ht, Bool.true_and] at hq
                have ht2 : ((table.length : Nat) : Int) = ((signsL labels n).length : Nat) := by rw [ht]
                push_cast [ht2]
                have hre : (((table.map fun d => d).map S.d) : List S) = table.map S.d := by simp
                rw [← hre]
                refine lc_filG (ts := table) (fun d => d) (fun d => if okRow good.length ways.toNat d = true then none else some d) (by omega) (fun d hd acc k hl2 hk => ?_) ?_
                · push_cast []
                  have hwn : ∃ l : Nat, ways = ((l : Nat) : Int) ∧ l < 3 := by
                    rcases hw with rfl | rfl
                    · exact ⟨1, rfl, by omega⟩
                    · exact ⟨2, rfl, by omega⟩
                  obtain ⟨l, e, hl3⟩ := hwn
                  refine ⟨l, good.length, 5, d, by rw [e], hl3, by omega, hrows d hd, by omega, ?_⟩
                  rw [e, Int.toNat_natCast] at hk
                  cases e5 : okRow good.length l d with
                  | true => rw [e5] at hk; push_cast []; exact hk
                  | false => rw [e5] at hk; push_cast []; exact hk
                · have o4 : okD (.lst (table.filterMap fun d => if okRow good.length ways.toNat d = true then none else some d)) := rD_okL (n := 5) (by omega) fun d hd => by
                    obtain ⟨e, he, h2⟩ := List.mem_filterMap.mp hd
                    split at h2
                    · cases h2
                    · cases h2; exact hrows _ he
                  have hb2 : (table.filterMap fun d => if okRow good.length ways.toNat d = true then none else some d).isEmpty = table.all (okRow good.length ways.toNat) := by
                    rw [Bool.eq_iff_iff, List.isEmpty_iff, List.filterMap_eq_nil_iff, List.all_eq_true]
                    refine forall_congr' fun d => forall_congr' fun _ => ?_
                    by_cases h : okRow good.length ways.toNat d = true <;> simp [h]
                  push_cast [o0, o4, eqv_nilL]
                  rw [hb2]
                  exact hq
              · rw [decide_eq_false ht, Bool.false_and] at hq
                have ht2 : ¬ ((table.length : Nat) : Int) = ((signsL labels n).length : Nat) := by omega
                push_cast [ht2]
                exact hq
    · rw [decide_eq_false hs, Bool.false_and, Bool.false_and, Bool.false_and] at hq
      push_cast [o1, o2, eqv_strs, hs]
      exact hq
  · rw [decide_eq_false h3, Bool.false_and, Bool.false_and, Bool.false_and, Bool.false_and] at hq
    have h3i : ¬ ((labels.length : Nat) : Int) ≤ 3 := by omega
    push_cast [h3i]
    exact hq
end
end Y


set_option Elab.async false
set_option linter.all false
set_option maxRecDepth 100000
set_option maxHeartbeats 2000000
namespace Y
open PySem PySem.Spec PyProof.Rows L2 StX XS XC NdefX
local macro_rules | `(tactic| push_cast [$xs,*]) => `(tactic| repeat (first | (with_reducible first | refine g_c ?_ | (refine g_v ?_; first | refine g_var0 ?_ | refine g_var1 ?_ | refine g_var2 ?_ | refine g_var3 ?_ | refine g_var4 ?_ | refine g_var5 ?_ | refine g_var6 ?_ | refine g_var7 ?_ | refine g_var8 ?_ | refine g_var9 ?_ | refine g_var10 ?_ | refine g_var11 ?_ | refine g_var12 ?_ | refine g_var13 ?_ | refine g_var14 ?_ | refine g_var15 ?_)) | ((with_reducible refine lf_go fun Q hQ => ?_); simp only [FrzAt, sortSD, zipD, rslD, setSortD, finJ, slotsD, ix_dicK, ix_dicT, ix_dicP, in_dicK, in_dicT, in_dicP, pkeyOf, seqD, revSeqD, spreadS, truD, slD, tyOk, appD, popD, extD, itemsOf, negD, putD, putC, sizeC, ty_non, ty_bl, ty_int, ty_str, ty_tup, ty_ktup, ty_lst, ty_pin, kitS, intO, addD, subD, mulD, modD, fdivD, shlD, shrD, bandD, borD, eq_ii, eq_ss, eq_bb, eq_tt, eq_ll, eq_tk, ordD, ltD, leD, gtD, geD, in_tup, in_ktup, in_lst, in_str, in_pin, inSq_str, inSq_int, isND, isNon, isBD, ix_tup, ix_ktup, ix_lst, ix_str, ix_pin, lookC, keyOf, keysOf, valS_nil, valS_cons, putS_nil, putS_cons, mergeS, kgetD, kixD, revD, wipeD, allD, len_tup, len_ktup, len_lst, len_str, len_pin, intD, absD, sumD, boolsD, tupD, listD, listP, dictC, lstOf, sqOf, frzC, allB, allI, allDk, ofString_inj, atI_0, atI_1, atI_2, atI_3, atI_1m1, atI_2m1, atI_2m2, atI_3m1, atI_3m2, atI_4m1, atI_4m2, cut_1, cut_2, cut_to1, cut_to2, cut_none, allD_map, List.map_cons, List.map_nil, List.length_cons, List.length_nil, List.length_append, List.length_map, List.length_set, List.replicate, List.nil_append, List.cons_append, List.append_nil, List.append_assoc, List.getElem?_cons_zero, List.getElem?_cons_succ, List.getElem?_nil, List.set_cons_zero, List.set_cons_succ, List.find?_cons, List.find?_nil, List.any_cons, List.any_nil, List.foldl_cons, List.foldl_nil, List.isEmpty_cons, List.isEmpty_nil, List.dropLast_concat, get_new, get_new1, get_new2, get_new3, set_new, set_new1, set_new2, set_new3, Option.map_some, Option.map_none, Option.isSome_some, Option.isSome_none, Option.some.injEq, Sum.inr.injEq, Sum.inl.injEq, reduceCtorEq, if_true, if_false, ite_true, ite_false, Bool.false_eq_true, Bool.not_true, Bool.not_false, Bool.false_xor, Bool.true_xor, Bool.xor_false, Bool.xor_true, decide_true, decide_false, decide_eq_true_eq, true_and, and_true, false_and, and_false, Bool.or_true, Bool.or_false, Bool.true_or, Bool.false_or, Bool.and_true, Bool.and_false, Bool.true_and, Bool.false_and, not_true_eq_false, not_false_eq_true, Nat.reduceAdd, Nat.reduceSub, Nat.reduceLeDiff, Nat.reduceLT, Nat.reduceEqDiff, Nat.reduceMul, Int.reduceLE, Int.reduceLT, Int.reduceEq, Int.reduceAdd, Int.reduceSub, Int.reduceNeg, Int.reduceMul, Int.reduceToNat, String.reduceEq, String.reduceBEq, reduceIte, Int.cast_ofNat_Int, Nat.zero_add, rng_0, rng_1, rng_2, rng_3, Nat.add_one_sub_one, List.reverse_nil, strsOf_nil, strsOf_cons, strsOf_map, intsOf_nil, intsOf_cons, intsOf_map, List.mem_cons, List.not_mem_nil, or_false, false_or, or_true, true_or, allB_map, allI_map, allB_mapf, allI_mapf, get_newm, allD_app, allD_mapf, isEmpty_snoc, $xs,*]; subst hQ; try dsimp only) | (with_reducible first | refine g_op ?_ | refine g_cons ?_ | refine g_nil ?_ | refine g_test ?_ | refine g_asB ?_ | refine g_true ?_ | refine g_false ?_ | refine g_dec ?_ | refine g_seq ?_ | refine g_un ?_ | refine g_b ?_ | refine g_nt ?_ | refine g_ifS ?_ | refine g_ret ?_ | refine g_next ?_ | (refine g_st ?_; first | refine g_set0 ?_ | refine g_set1 ?_ | refine g_set2 ?_ | refine g_set3 ?_ | refine g_set4 ?_ | refine g_set5 ?_ | refine g_set6 ?_ | refine g_set7 ?_ | refine g_set8 ?_ | refine g_set9 ?_ | refine g_set10 ?_ | refine g_set11 ?_ | refine g_set12 ?_ | refine g_set13 ?_ | refine g_set14 ?_ | refine g_set15 ?_) | (refine g_gn ?_; first | refine g_gn0 ?_ | refine g_gn1 ?_ | refine g_gn2 ?_ | refine g_gn3 ?_ | refine g_gn4 ?_ | refine g_gn5 ?_ | refine g_gn6 ?_ | refine g_gn7 ?_ | refine g_gn8 ?_ | refine g_gn9 ?_ | refine g_gn10 ?_ | refine g_gn11 ?_ | refine g_gn12 ?_ | refine g_gn13 ?_ | refine g_gn14 ?_ | refine g_gn15 ?_) | refine g_lf1 ?_ | refine g_lf2 ?_ | refine g_notTv ?_ | refine g_andT ?_ | refine g_orT ?_ | refine g_notT ?_ | refine g_mt ?_ | refine g_mt0 ?_ | refine g_drop ?_ | refine g_tup ?_ | refine g_lstD ?_ | refine g_lst ?_ | refine g_if ?_ | refine g_call ?_ | refine g_callG ?_ | refine g_callX ?_ | refine g_callGX ?_ | refine g_tru ?_ | refine g_andV ?_ | refine g_orV ?_ | refine g_notV ?_ | refine g_sl ?_ | refine g_noPart ?_ | refine g_part ?_ | refine g_partI ?_ | refine g_chain ?_ | refine g_putS ?_ | refine g_isi ?_ | refine g_star ?_ | refine g_for ?_ | refine g_lc ?_ | refine g_seqI ?_ | refine g_revI ?_ | refine g_rng1 ?_ | refine g_rng2 ?_ | refine g_gNil ?_ | refine g_gCons ?_ | refine g_gTup2 ?_ | refine g_gTup3 ?_ | refine g_gTup4 ?_ | refine g_yes ?_ | refine g_retN ?_ | refine g_break ?_ | refine g_cont ?_ | refine g_finD ?_ | refine g_finD2 ?_ | refine g_finP ?_ | refine g_lcB ?_ | refine g_lcNil ?_ | refine g_lcCons ?_ | refine g_forNil ?_ | refine g_forCons ?_ | refine g_rtP ?_ | refine g_rtPin ?_ | refine g_disp ?_ | refine g_pairs0 ?_ | refine g_pairsS ?_ | refine g_pairsI ?_ | refine g_newK ?_ | refine g_newT ?_ | refine g_newP ?_ | refine g_zipI ?_ | refine g_revrng ?_ | refine g_lcN ?_ | refine g_mid ?_ | refine g_elt ?_ | refine g_lcTNil ?_ | refine g_lcTCons ?_ | refine g_dc ?_ | refine g_dcNil ?_ | refine g_dcCons ?_ | refine g_lam ?_ | refine g_callB ?_ | refine g_frz ?_ | refine g_loc rfl ?_ | refine g_locC rfl ?_) | ((with_reducible refine g_pos ?_ ?_); · first | assumption | rfl | omega) | ((with_reducible refine g_neg ?_ ?_); · first | assumption | omega | decide) | ((with_reducible refine And.intro ?_ ?_); · first | trivial | assumption | omega | exact Or.inr (by decide) | (dsimp only; omega) | (simp only [List.length_append, List.length_cons, List.length_nil, List.length_map, List.length_reverse]; omega) | (simp; done))))
local macro_rules | `(tactic| norm_cast) => `(tactic| ((first | with_reducible refine g_endsG ?_ | with_reducible refine g_endsP ?_); simp only [start_eq, List.map_cons, List.map_nil, List.replicate, List.length_cons, List.length_nil, Nat.reduceAdd, Nat.reduceSub, Nat.zero_add, List.cons_append, List.nil_append]))
theorem sc__law_spoilt : FnScope ["tape", "machine", "kind", "tracks", "table", "good", "choice"] ["tape", "machine"] (defScope d__law_spoilt) := ⟨rfl, rfl, rfl, by decide +kernel, rfl, by decide +kernel, by decide +kernel⟩
def GSpoilt : CG := fun ss ω q => ∃ (j : Nat) (c : Cell) (ways : Int) (labels : List Str) (n many : Nat) (table good : List D), ss = [.pin j, .d (machD ways labels n table good)] ∧ ω[j]? = some c ∧ Tp c ∧ KdOk ways labels ∧ n ≤ 2 ∧ 1 ≤ many ∧ many ≤ 5 ∧ MGood ways labels n many table good ∧
  ∀ ways' labels' n' table' good' c', MAny ways' labels' n' table' good' → q (.d (machD ways' labels' n' table' good')) (ω.set j c')
theorem okRow_rD (many : Nat) (hm : many ≤ 100) : ∀ (l : Nat) (d : D), okRow many l d = true → rD l d = true
  | 0, .int _, _ => by rw [rD]
  | l + 1, .tup ds, h => by
    rw [okRow, Bool.and_eq_true, decide_eq_true_eq, List.all_eq_true] at h
    rw [rD, Bool.and_eq_true, decide_eq_true_eq, List.all_eq_true]
    exact ⟨by omega, fun d hd => okRow_rD many hm l d (h.2 d hd)⟩
  | 0, .tup _, h => by simp [okRow] at h
  | 0, .bl _, h => by simp [okRow] at h
  | l + 1, .int _, h => by simp [okRow] at h
  | l + 1, .bl _, h => by simp [okRow] at h
  | l, .non, h => by cases l <;> simp [okRow] at h
  | l, .str _, h => by cases l <;> simp [okRow] at h
  | l, .fn _, h => by cases l <;> simp [okRow] at h
  | l, .ktup _, h => by cases l <;> simp [okRow] at h
  | l, .lst _, h => by cases l <;> simp [okRow] at h
  | l, .klst _, h => by cases l <;> simp [okRow] at h
  | l, .dicK _ _, h => by cases l <;> simp [okRow] at h
  | l, .dicT _ _, h => by cases l <;> simp [okRow] at h
  | l, .dicP _ _, h => by cases l <;> simp [okRow] at h
  | l, .clo _ _ _ _ _ _, h => by cases l <;> simp [okRow] at h
theorem rD_le {m n : Nat} (h : m ≤ n) {d : D} (hd : rD m d = true) : rD n d = true := by
  induction h with
  | refl => exact hd
  | step _ ih => exact rD_up _ _ ih
theorem kdL_ls6 {labels : List Str} (h : KdL labels) : labels ∈ LS6 ∧ kB labels = true ∧ labels.reverse ++ (["c"] : List Str) ∈ LS6 ∧ labels ≠ [] ∧ labels.length ≤ 3 := by
  rcases h with rfl | rfl | rfl <;> decide +kernel
theorem MGood.any {ways : Int} {labels : List Str} {n many : Nat} {table good : List D} (h : MGood ways labels n many table good) (hk : KdOk ways labels) (hn : n ≤ 2) (h1 : 1 ≤ many) (h5 : many ≤ 5) : MAny ways labels n table good := by
  obtain ⟨a, b, c, d, e⟩ := kdL_ls6 hk.2.2.2.2
  have hsl := signs_len labels n
  have hle : labels.length * 2 ^ n ≤ 3 * 8 := Nat.mul_le_mul e (pow3 (by omega))
  refine ⟨hk.1, a, by omega, by have := h.tl; omega, fun r hr => ?_, by have := h.gl; omega, by have := h.gl; omega, fun g hg => ?_⟩
  · refine rD_le ?_ (okRow_rD many (by omega) _ r (h.rows r hr))
    rcases hk.1 with rfl | rfl <;> decide
  · have := h.gb g hg
    cases g <;> simp [isB, gD] at this ⊢
theorem cut_m1 {α : Type} {l : List α} : cutL l none (some (-1)) = l.dropLast := by
  unfold cutL
  rw [List.dropLast_eq_take]
  simp [HT.sIx]
  try (congr 1; omega)
theorem MAny.labs {ways : Int} {labels labels' : List Str} {n : Nat} {table good : List D} (h : MAny ways labels n table good) (hl : labels' ∈ LS6) : MAny ways labels' n table good := ⟨h.hw, hl, h.hn, h.tl, h.rows, h.g1, h.g2, h.gd⟩
theorem MAny.tab {ways : Int} {labels : List Str} {n : Nat} {table table' good : List D} (h : MAny ways labels n table good) (hl : table'.length ≤ 100) (hr : ∀ r ∈ table', rD 5 r = true) : MAny ways labels n table' good := ⟨h.hw, h.hl, h.hn, hl, hr, h.g1, h.g2, h.gd⟩
theorem MAny.good {ways : Int} {labels : List Str} {n : Nat} {table good good' : List D} (h : MAny ways labels n table good) (h1 : 1 ≤ good'.length) (h2 : good'.length ≤ 10) (hr : ∀ r ∈ good', gD r = true) : MAny ways labels n table good' := ⟨h.hw, h.hl, h.hn, h.tl, h.rows, h1, h2, hr⟩
section
variable {P : Program} {w : World} [Tb w] {K : PySem.W.Frag} {mg : Str → Option Value} {base : Heap}
theorem ok_spoilt {k : Nat} (bu : Bu mg) (c__law_take : Cal P w K mg base CX0 k "_law_take" ["tape", "many"] (spG K GTake)) (Dn : Dfn K mg "_law_spoilt" ["tape", "machine"] d__law_spoilt) : Cal P w K mg base CX0 (k+1) "_law_spoilt" ["tape", "machine"] (spG K GSpoilt) := by
  refine calG Dn sc__law_spoilt (fun ss ω q h => ?_) fun f cdv A outer s H E ss ω q hr h => ?_
  · obtain ⟨j, c, ways, labels, n, many, table, good, rfl, _⟩ := h
    rfl
  have hu := hu_of hr
  have hu64 := hr.units
  obtain ⟨j, c, ways, labels, n, many, table, good, rfl, hj, hc, hk, hn, hm1, hm5, hG, hq⟩ := h
  have hA := hG.any hk hn hm1 hm5
  obtain ⟨l1, l2, l3, l4, l5⟩ := kdL_ls6 hk.2.2.2.2
  obtain ⟨htl, hrows, hgl, hgb⟩ := hG
  have hsl := signs_len labels n
  have hpos : 0 < table.length := by
    rw [htl, hsl]
    exact Nat.mul_pos (List.length_pos_iff.mpr l4) (Nat.pos_of_ne_zero (by simp))
  cases table with
  | nil => simp at hpos
  | cons r0 rest =>
    have hr0 := hrows r0 (by simp)
    have hr5 := hA.rows r0 (by simp)
    have hw := hk.1
    cases r0 with
    | tup ds =>
      have hds : ds.length = many := by
        rcases hw with rfl | rfl
        · rw [show (1 : Int).toNat = 0 + 1 from rfl, okRow, Bool.and_eq_true, decide_eq_true_eq] at hr0; exact hr0.1
        · rw [show (2 : Int).toNat = 1 + 1 from rfl, okRow, Bool.and_eq_true, decide_eq_true_eq] at hr0; exact hr0.1
      rw [rD, Bool.and_eq_true, decide_eq_true_eq, List.all_eq_true] at hr5
      have hrest : ∀ r ∈ rest, rD 5 r = true := fun r hr => hA.rows r (by simp [hr])
      have hrl := hA.tl
      rw [List.length_cons] at hrl
      have hsub : ∀ d ∈ ds.dropLast, rD 4 d = true := fun d hd => hr5.2 d ((List.dropLast_sublist _).subset hd)
      have hdl : ds.dropLast.length ≤ 5 := by rw [List.length_dropLast]; omega
      have row : ∀ es : List D, es.length ≤ 2 → (∀ e ∈ es, rD 4 e = true) → ∀ r ∈ (.tup (ds.dropLast ++ es) :: rest : List D), rD 5 r = true := fun es h1 h2 r hr => by
        rcases List.mem_cons.mp hr with rfl | hr
        · rw [rD, Bool.and_eq_true, decide_eq_true_eq, List.all_eq_true]
          refine ⟨by rw [List.length_append]; omega, fun d hd => ?_⟩
          rcases List.mem_append.mp hd with hd | hd
          · exact hsub d hd
          · exact h2 d hd
        · exact hrest r hr
      have hgd5 : good.dropLast.length ≤ 5 := by rw [List.length_dropLast]; omega
      refine ⟨_, _, (ys_cons (y_asg (y_var 1) (yg_tup (n := 4) rfl (ygs_cons (yg_name (i := 2) sc__law_spoilt.nd rfl) (ygs_cons (yg_name (i := 3) sc__law_spoilt.nd rfl) (ygs_cons (yg_name (i := 4) sc__law_spoilt.nd rfl) (ygs_cons (yg_name (i := 5) sc__law_spoilt.nd rfl) ygs_nil))))))
      (ys_cons (y_set (i := 6) sc__law_spoilt.nd rfl (y_calG c__law_take hr (ya_cons (y_var 0) (ya_cons y_int ya_nil))))
      (ys_cons (y_ifS (yt_cmp (op_eqY hu64) refO_eq (y_var 6) y_int (nomark _)) (ys_one (y_ret (y_tup (ya_cons (y_tup (ya_cons (y_ix hu (y_var 2) y_int (fun _ _ => rfl)) (ya_cons (y_add (y_rslice (y_ix hu (y_var 2) y_int (fun _ _ => rfl))) (y_tup (ya_cons y_str ya_nil))) ya_nil))) (ya_cons (y_var 3) (ya_cons (y_var 4) (ya_cons (y_var 5) ya_nil))))))) ys_nil)
      (ys_cons (y_ifS (yt_cmp (op_eqY hu64) refO_eq (y_var 6) y_int (nomark _)) (ys_one (y_ret (y_tup (ya_cons (y_var 2) (ya_cons (y_add (y_var 3) y_int) (ya_cons (y_var 4) (ya_cons (y_var 5) ya_nil))))))) ys_nil)
      (ys_cons (y_ifS (yt_cmp (op_eqY hu64) refO_eq (y_var 6) y_int (nomark _)) (ys_one (y_ret (y_tup (ya_cons (y_var 2) (ya_cons (y_var 3) (ya_cons (y_slice (y_var 4) (yo_some y_int) yo_none) (ya_cons (y_var 5) ya_nil))))))) ys_nil)
      (ys_cons (y_ifS (yt_cmp (op_eqY hu64) refO_eq (y_var 6) y_int (nomark _)) (ys_one (y_ret (y_tup (ya_cons (y_var 2) (ya_cons (y_var 3) (ya_cons (y_var 4) (ya_cons (y_add (y_var 5) (y_tup (ya_cons y_bl ya_nil))) ya_nil))))))) ys_nil)
      (ys_cons (y_ifS (yt_cmp (op_eqY hu64) refO_eq (y_var 6) y_int (nomark _)) (ys_one (y_ret (y_tup (ya_cons (y_var 2) (ya_cons (y_var 3) (ya_cons (y_var 4) (ya_cons (y_add (y_slice (y_var 5) yo_none (yo_some (y_neg y_int))) (y_tup (ya_cons y_int ya_nil))) ya_nil))))))) ys_nil)
      (ys_cons (y_ifS (yt_cmp (op_eqY hu64) refO_eq (y_var 6) y_int (nomark _)) (ys_one (y_ret (y_tup (ya_cons (y_var 2) (ya_cons (y_var 3) (ya_cons (y_add (y_tup (ya_cons (y_slice (y_ix hu (y_var 4) y_int (fun _ _ => rfl)) yo_none (yo_some (y_neg y_int))) ya_nil)) (y_slice (y_var 4) (yo_some y_int) yo_none)) (ya_cons (y_var 5) ya_nil))))))) ys_nil)
      (ys_cons (y_ifS (yt_cmp (op_eqY hu64) refO_eq (y_var 6) y_int (nomark _)) (ys_one (y_ret (y_tup (ya_cons (y_var 2) (ya_cons (y_var 3) (ya_cons (y_add (y_tup (ya_cons (y_add (y_slice (y_ix hu (y_var 4) y_int (fun _ _ => rfl)) yo_none (yo_some (y_neg y_int))) (y_tup (ya_cons (y_len bu (ya_cons (y_var 5) ya_nil)) ya_nil))) ya_nil)) (y_slice (y_var 4) (yo_some y_int) yo_none)) (ya_cons (y_var 5) ya_nil))))))) ys_nil)
      (ys_one (y_ret (y_tup (ya_cons (y_var 2) (ya_cons (y_var 3) (ya_cons (y_add (y_tup (ya_cons (y_add (y_slice (y_ix hu (y_var 4) y_int (fun _ _ => rfl)) yo_none (yo_some (y_neg y_int))) (y_tup (ya_cons y_bl ya_nil))) ya_nil)) (y_slice (y_var 4) (yo_some y_int) yo_none)) (ya_cons (y_var 5) ya_nil)))))))))))))))), ?_⟩
      unfold machD kindD
      norm_cast
      push_cast []
      refine ⟨j, 8, c, rfl, hj, hc, by omega, by omega, fun z c' hc' h0 h1 => ?_⟩
      have hz : z = 0 ∨ z = 1 ∨ z = 2 ∨ z = 3 ∨ z = 4 ∨ z = 5 ∨ z = 6 ∨ z = 7 := by omega
      rcases hz with rfl | rfl | rfl | rfl | rfl | rfl | rfl | rfl
      · push_cast []
        have := hq ways _ n _ good c' (hA.labs l3)
        unfold machD kindD at this
        rw [List.map_append, List.map_reverse] at this
        exact this
      · push_cast []
        have := hq ways labels (n + 1) _ good c' ⟨hA.hw, hA.hl, by omega, hA.tl, hA.rows, hA.g1, hA.g2, hA.gd⟩
        unfold machD kindD at this
        rw [show ((n + 1 : Nat) : Int) = (n : Int) + 1 by omega] at this
        exact this
      · push_cast []
        exact hq ways labels n rest good c' (hA.tab (by omega) hrest)
      · push_cast []
        exact hq ways labels n _ (good ++ [.bl true]) c' (hA.good (by simp) (by rw [List.length_append, List.length_singleton]; omega) fun g hg => by
          rcases List.mem_append.mp hg with hg | hg
          · exact hA.gd g hg
          · rw [List.mem_singleton.mp hg]; rfl)
      · push_cast [cut_m1]
        exact hq ways labels n _ (good.dropLast ++ [.int 1]) c' (hA.good (by simp) (by rw [List.length_append, List.length_singleton, List.length_dropLast]; omega) fun g hg => by
          rcases List.mem_append.mp hg with hg | hg
          · exact hA.gd g ((List.dropLast_sublist _).subset hg)
          · rw [List.mem_singleton.mp hg]; rfl)
      · push_cast [cut_m1]
        have := row [] (by simp) (by simp)
        rw [List.append_nil] at this
        exact hq ways labels n _ good c' (hA.tab (by rw [List.length_cons]; omega) this)
      · push_cast [cut_m1]
        exact hq ways labels n _ good c' (hA.tab (by rw [List.length_cons]; omega) (row [.int (good.length : Nat)] (by simp) (by simp [rD])))
      · push_cast [cut_m1]
        exact hq ways labels n _ good c' (hA.tab (by rw [List.length_cons]; omega) (row [.bl true] (by simp) (by simp [rD])))
    | _ => rcases hw with rfl | rfl <;> simp [okRow] at hr0
end
end Y


set_option Elab.async false
set_option linter.all false
set_option maxRecDepth 100000
set_option maxHeartbeats 2000000
namespace Y
open PySem PySem.Spec PyProof.Rows L2 StX XS XC NdefX
local macro_rules | `(tactic| push_cast [$xs,*]) => `(tactic| repeat (first | (with_reducible first | refine g_c ?_ | (refine g_v ?_; first | refine g_var0 ?_ | refine g_var1 ?_ | refine g_var2 ?_ | refine g_var3 ?_ | refine g_var4 ?_ | refine g_var5 ?_ | refine g_var6 ?_ | refine g_var7 ?_ | refine g_var8 ?_ | refine g_var9 ?_ | refine g_var10 ?_ | refine g_var11 ?_ | refine g_var12 ?_ | refine g_var13 ?_ | refine g_var14 ?_ | refine g_var15 ?_)) | ((with_reducible refine lf_go fun Q hQ => ?_); simp only [FrzAt, sortSD, zipD, rslD, setSortD, finJ, slotsD, ix_dicK, ix_dicT, ix_dicP, in_dicK, in_dicT, in_dicP, pkeyOf, seqD, revSeqD, spreadS, truD, slD, tyOk, appD, popD, extD, itemsOf, negD, putD, putC, sizeC, ty_non, ty_bl, ty_int, ty_str, ty_tup, ty_ktup, ty_lst, ty_pin, kitS, intO, addD, subD, mulD, modD, fdivD, shlD, shrD, bandD, borD, eq_ii, eq_ss, eq_bb, eq_tt, eq_ll, eq_tk, ordD, ltD, leD, gtD, geD, in_tup, in_ktup, in_lst, in_str, in_pin, inSq_str, inSq_int, isND, isNon, isBD, ix_tup, ix_ktup, ix_lst, ix_str, ix_pin, lookC, keyOf, keysOf, valS_nil, valS_cons, putS_nil, putS_cons, mergeS, kgetD, kixD, revD, wipeD, allD, len_tup, len_ktup, len_lst, len_str, len_pin, intD, absD, sumD, boolsD, tupD, listD, listP, dictC, lstOf, sqOf, frzC, allB, allI, allDk, ofString_inj, atI_0, atI_1, atI_2, atI_3, atI_1m1, atI_2m1, atI_2m2, atI_3m1, atI_3m2, atI_4m1, atI_4m2, cut_1, cut_2, cut_to1, cut_to2, cut_none, allD_map, List.map_cons, List.map_nil, List.length_cons, List.length_nil, List.length_append, List.length_map, List.length_set, List.replicate, List.nil_append, List.cons_append, List.append_nil, List.append_assoc, List.getElem?_cons_zero, List.getElem?_cons_succ, List.getElem?_nil, List.set_cons_zero, List.set_cons_succ, List.find?_cons, List.find?_nil, List.any_cons, List.any_nil, List.foldl_cons, List.foldl_nil, List.isEmpty_cons, List.isEmpty_nil, List.dropLast_concat, get_new, get_new1, get_new2, get_new3, set_new, set_new1, set_new2, set_new3, Option.map_some, Option.map_none, Option.isSome_some, Option.isSome_none, Option.some.injEq, Sum.inr.injEq, Sum.inl.injEq, reduceCtorEq, if_true, if_false, ite_true, ite_false, Bool.false_eq_true, Bool.not_true, Bool.not_false, Bool.false_xor, Bool.true_xor, Bool.xor_false, Bool.xor_true, decide_true, decide_false, decide_eq_true_eq, true_and, and_true, false_and, and_false, Bool.or_true, Bool.or_false, Bool.true_or, Bool.false_or, Bool.and_true, Bool.and_false, Bool.true_and, Bool.false_and, not_true_eq_false, not_false_eq_true, Nat.reduceAdd, Nat.reduceSub, Nat.reduceLeDiff, Nat.reduceLT, Nat.reduceEqDiff, Nat.reduceMul, Int.reduceLE, Int.reduceLT, Int.reduceEq, Int.reduceAdd, Int.reduceSub, Int.reduceNeg, Int.reduceMul, Int.reduceToNat, String.reduceEq, String.reduceBEq, reduceIte, Int.cast_ofNat_Int, Nat.zero_add, rng_0, rng_1, rng_2, rng_3, Nat.add_one_sub_one, List.reverse_nil, strsOf_nil, strsOf_cons, strsOf_map, intsOf_nil, intsOf_cons, intsOf_map, List.mem_cons, List.not_mem_nil, or_false, false_or, or_true, true_or, allB_map, allI_map, allB_mapf, allI_mapf, get_newm, allD_app, allD_mapf, isEmpty_snoc, $xs,*]; subst hQ; try dsimp only) | (with_reducible first | refine g_op ?_ | refine g_cons ?_ | refine g_nil ?_ | refine g_test ?_ | refine g_asB ?_ | refine g_true ?_ | refine g_false ?_ | refine g_dec ?_ | refine g_seq ?_ | refine g_un ?_ | refine g_b ?_ | refine g_nt ?_ | refine g_ifS ?_ | refine g_ret ?_ | refine g_next ?_ | (refine g_st ?_; first | refine g_set0 ?_ | refine g_set1 ?_ | refine g_set2 ?_ | refine g_set3 ?_ | refine g_set4 ?_ | refine g_set5 ?_ | refine g_set6 ?_ | refine g_set7 ?_ | refine g_set8 ?_ | refine g_set9 ?_ | refine g_set10 ?_ | refine g_set11 ?_ | refine g_set12 ?_ | refine g_set13 ?_ | refine g_set14 ?_ | refine g_set15 ?_) | (refine g_gn ?_; first | refine g_gn0 ?_ | refine g_gn1 ?_ | refine g_gn2 ?_ | refine g_gn3 ?_ | refine g_gn4 ?_ | refine g_gn5 ?_ | refine g_gn6 ?_ | refine g_gn7 ?_ | refine g_gn8 ?_ | refine g_gn9 ?_ | refine g_gn10 ?_ | refine g_gn11 ?_ | refine g_gn12 ?_ | refine g_gn13 ?_ | refine g_gn14 ?_ | refine g_gn15 ?_) | refine g_lf1 ?_ | refine g_lf2 ?_ | refine g_notTv ?_ | refine g_andT ?_ | refine g_orT ?_ | refine g_notT ?_ | refine g_mt ?_ | refine g_mt0 ?_ | refine g_drop ?_ | refine g_tup ?_ | refine g_lstD ?_ | refine g_lst ?_ | refine g_if ?_ | refine g_call ?_ | refine g_callG ?_ | refine g_callX ?_ | refine g_callGX ?_ | refine g_tru ?_ | refine g_andV ?_ | refine g_orV ?_ | refine g_notV ?_ | refine g_sl ?_ | refine g_noPart ?_ | refine g_part ?_ | refine g_partI ?_ | refine g_chain ?_ | refine g_putS ?_ | refine g_isi ?_ | refine g_star ?_ | refine g_for ?_ | refine g_lc ?_ | refine g_seqI ?_ | refine g_revI ?_ | refine g_rng1 ?_ | refine g_rng2 ?_ | refine g_gNil ?_ | refine g_gCons ?_ | refine g_gTup2 ?_ | refine g_gTup3 ?_ | refine g_gTup4 ?_ | refine g_yes ?_ | refine g_retN ?_ | refine g_break ?_ | refine g_cont ?_ | refine g_finD ?_ | refine g_finD2 ?_ | refine g_finP ?_ | refine g_lcB ?_ | refine g_lcNil ?_ | refine g_lcCons ?_ | refine g_forNil ?_ | refine g_forCons ?_ | refine g_rtP ?_ | refine g_rtPin ?_ | refine g_disp ?_ | refine g_pairs0 ?_ | refine g_pairsS ?_ | refine g_pairsI ?_ | refine g_newK ?_ | refine g_newT ?_ | refine g_newP ?_ | refine g_zipI ?_ | refine g_revrng ?_ | refine g_lcN ?_ | refine g_mid ?_ | refine g_elt ?_ | refine g_lcTNil ?_ | refine g_lcTCons ?_ | refine g_dc ?_ | refine g_dcNil ?_ | refine g_dcCons ?_ | refine g_lam ?_ | refine g_callB ?_ | refine g_frz ?_ | refine g_loc rfl ?_ | refine g_locC rfl ?_) | ((with_reducible refine g_pos ?_ ?_); · first | assumption | rfl | omega) | ((with_reducible refine g_neg ?_ ?_); · first | assumption | omega | decide) | ((with_reducible refine And.intro ?_ ?_); · first | trivial | assumption | omega | exact Or.inr (by decide) | (dsimp only; omega) | (simp only [List.length_append, List.length_cons, List.length_nil, List.length_map, List.length_reverse]; omega) | (simp; done))))
local macro_rules | `(tactic| norm_cast) => `(tactic| ((first | with_reducible refine g_endsG ?_ | with_reducible refine g_endsP ?_); simp only [start_eq, List.map_cons, List.map_nil, List.replicate, List.length_cons, List.length_nil, Nat.reduceAdd, Nat.reduceSub, Nat.zero_add, List.cons_append, List.nil_append]))
/-! ### what is the same as itself -/
mutual
theorem same_self : ∀ (n : Nat) (d : D), goodD n d = true → sameD d d = true
  | _ + 1, .non, _ => rfl
  | _ + 1, .bl b, _ => by simp [sameD]
  | _ + 1, .int b, _ => by simp [sameD]
  | _ + 1, .str b, _ => by simp [sameD]
  | n + 1, .tup ds, h => by
    rw [goodD, Bool.and_eq_true] at h
    simpa [sameD] using sames_self n ds h.2
  | n + 1, .ktup ds, h => by
    rw [goodD, Bool.and_eq_true] at h
    simpa [sameD] using sames_self n ds h.2
  | n + 1, .lst ds, h => by
    rw [goodD, Bool.and_eq_true] at h
    simpa [sameD] using sames_self n ds h.2
  | 0, d, h => by cases d <;> simp [goodD] at h
  | _ + 1, .fn _, h => by simp [goodD] at h
  | _ + 1, .klst _, h => by simp [goodD] at h
  | _ + 1, .dicK _ _, h => by simp [goodD] at h
  | _ + 1, .dicT _ _, h => by simp [goodD] at h
  | _ + 1, .dicP _ _, h => by simp [goodD] at h
  | _ + 1, .clo _ _ _ _ _ _, h => by simp [goodD] at h
theorem sames_self : ∀ (n : Nat) (ds : List D), goodDs n ds = true → sameDs ds ds = true
  | _, [], _ => rfl
  | n, d :: ds, h => by
    rw [goodDs, Bool.and_eq_true] at h
    rw [sameDs, same_self n d h.1, sames_self n ds h.2]
    rfl
end
theorem goodDs_of {n : Nat} : ∀ {ds : List D}, (∀ d ∈ ds, goodD n d = true) → goodDs n ds = true
  | [], _ => by rw [goodDs]
  | d :: ds, h => by rw [goodDs, h d (by simp), goodDs_of fun e he => h e (by simp [he])]; rfl
/-! ### runs -/
def intOf : Option D → Int
  | some (.int z) => z
  | _ => 0
def rowOf (labels : List Str) (n : Nat) (table : List D) (a : D) : D := match pkeyOf a with
  | some key => match findG (idxOf ((sgs labels n).map sk)) key with
    | some i => table.getD i .non
    | none => .non
  | none => .non
def Mt.run (labels : List Str) (n : Nat) (table : List D) : Mt → Int
  | .e => 0
  | .w a c => intOf (rowAt (rowOf labels n table a) [c.run labels n table])
  | .t a l r => intOf (rowAt (rowOf labels n table a) [l.run labels n table, r.run labels n table])
/-- the labels are signs -/
def Mt.Sg (ways : Int) (labels : List Str) (n : Nat) : Mt → Prop
  | .e => True
  | .w a c => ways = 1 ∧ (∃ x b, x ∈ labels ∧ b ∈ bitsL n ∧ a = signD x b) ∧ c.Sg ways labels n
  | .t a l r => ways = 2 ∧ (∃ x b, x ∈ labels ∧ b ∈ bitsL n ∧ a = signD x b) ∧ l.Sg ways labels n ∧ r.Sg ways labels n
theorem row1 {many : Nat} {d : D} {i : Int} (h : okRow many 1 d = true) (h0 : 0 ≤ i) (h1 : i < (many : Int)) : ∃ z : Int, rowAt d [i] = some (.int z) ∧ 0 ≤ z ∧ z < (many : Int) := by
  cases d with
  | tup ds =>
    rw [show (1 : Nat) = 0 + 1 from rfl, okRow, Bool.and_eq_true, decide_eq_true_eq, List.all_eq_true] at h
    obtain ⟨k, rfl⟩ := Int.eq_ofNat_of_zero_le h0
    have hk : k < ds.length := by omega
    have h2 := h.2 ds[k] (List.getElem_mem hk)
    have e : atI ds ((k : Nat) : Int) = some ds[k] := by rw [atI_nat, List.getElem?_eq_getElem hk]
    rw [rowAt, e]
    cases hd : ds[k] with
    | int z =>
      rw [hd, okRow, Bool.and_eq_true, decide_eq_true_eq, decide_eq_true_eq] at h2
      exact ⟨z, rfl, h2.1, h2.2⟩
    | _ => rw [hd] at h2; simp [okRow] at h2
  | _ => simp [okRow] at h
theorem row2 {many : Nat} {d : D} {i j : Int} (h : okRow many 2 d = true) (h0 : 0 ≤ i) (h1 : i < (many : Int)) (h2 : 0 ≤ j) (h3 : j < (many : Int)) : ∃ z : Int, rowAt d [i, j] = some (.int z) ∧ 0 ≤ z ∧ z < (many : Int) := by
  cases d with
  | tup ds =>
    rw [show (2 : Nat) = 1 + 1 from rfl, okRow, Bool.and_eq_true, decide_eq_true_eq, List.all_eq_true] at h
    obtain ⟨k, rfl⟩ := Int.eq_ofNat_of_zero_le h0
    have hk : k < ds.length := by omega
    have e : atI ds ((k : Nat) : Int) = some ds[k] := by rw [atI_nat, List.getElem?_eq_getElem hk]
    rw [rowAt, e]
    exact row1 (h.2 ds[k] (List.getElem_mem hk)) h2 h3
  | _ => simp [okRow] at h
theorem rowOf_sign {ways : Int} {labels : List Str} {n many : Nat} {table good : List D} (G : MGood ways labels n many table good) {x : Str} {b : List Int} (hx : x ∈ labels) (hb : b ∈ bitsL n) : ∃ i, findG (idxOf ((sgs labels n).map sk)) (sk (x, b)) = some i ∧ rowOf labels n table (signD x b) = table.getD i .non ∧ okRow many ways.toNat (table.getD i .non) = true := by
  have hm : sk (x, b) ∈ (sgs labels n).map sk := List.mem_map.mpr ⟨(x, b), List.mem_flatMap.mpr ⟨x, hx, List.mem_map.mpr ⟨b, hb, rfl⟩⟩, rfl⟩
  obtain ⟨i, hi⟩ := idx_some hm
  have hp : pkeyOf (signD x b) = some (sk (x, b)) := by
    unfold signD pathD pkeyOf
    dsimp only
    rw [keyOf, keysOf_path]
    rfl
  have hlt := find_mem hi
  rw [List.length_map] at hlt
  have hlt2 : i < table.length := by rw [G.tl, signs_sgs, List.length_map]; exact hlt
  refine ⟨i, hi, by unfold rowOf; rw [hp]; dsimp only; rw [hi], ?_⟩
  rw [List.getD_eq_getElem?_getD, List.getElem?_eq_getElem hlt2]
  exact G.rows _ (List.getElem_mem hlt2)
theorem run_ok {ways : Int} {labels : List Str} {n many : Nat} {table good : List D} (G : MGood ways labels n many table good) (h1 : 1 ≤ many) : ∀ t : Mt, t.Sg ways labels n → (∀ s ∈ t.pre, s.RunOk labels n table (Mt.run labels n table)) ∧ 0 ≤ t.run labels n table ∧ t.run labels n table < (many : Int)
  | .e, _ => ⟨fun s hs => by rw [Mt.pre, List.mem_singleton] at hs; subst hs; rfl, by simp [Mt.run], by simp [Mt.run]; omega⟩
  | .w a c, h => by
    obtain ⟨rfl, ⟨x, b, hx, hb, rfl⟩, hc⟩ := h
    obtain ⟨i1, i2, i3⟩ := run_ok G h1 c hc
    obtain ⟨i, e1, e2, e3⟩ := rowOf_sign G hx hb
    obtain ⟨z, e4, e5, e6⟩ := row1 e3 i2 i3
    have er : (Mt.w (signD x b) c).run labels n table = z := by rw [Mt.run, e2, e4]; rfl
    refine ⟨fun s hs => ?_, by rw [er]; exact e5, by rw [er]; exact e6⟩
    rw [Mt.pre, List.mem_cons] at hs
    rcases hs with rfl | hs
    · exact ⟨x, b, i, rfl, e1, by rw [er]; exact e4⟩
    · exact i1 s hs
  | .t a l r, h => by
    obtain ⟨rfl, ⟨x, b, hx, hb, rfl⟩, hl, hr⟩ := h
    obtain ⟨i1, i2, i3⟩ := run_ok G h1 l hl
    obtain ⟨j1, j2, j3⟩ := run_ok G h1 r hr
    obtain ⟨i, e1, e2, e3⟩ := rowOf_sign G hx hb
    obtain ⟨z, e4, e5, e6⟩ := row2 e3 i2 i3 j2 j3
    have er : (Mt.t (signD x b) l r).run labels n table = z := by rw [Mt.run, e2, e4]; rfl
    refine ⟨fun s hs => ?_, by rw [er]; exact e5, by rw [er]; exact e6⟩
    rw [Mt.pre, List.mem_cons, List.mem_append] at hs
    rcases hs with rfl | hs | hs
    · exact ⟨x, b, i, rfl, e1, by rw [er]; exact e4⟩
    · exact i1 s hs
    · exact j1 s hs
theorem bits_all : ∀ (n : Nat) (b : List Int), b.length = n → (∀ x ∈ b, x = 0 ∨ x = 1) → b ∈ bitsL n
  | 0, b, h, _ => by rw [List.length_eq_zero_iff.mp h]; simp [bitsL]
  | n + 1, b, h, hb => by
    have hne : b ≠ [] := fun z => by rw [z] at h; simp at h
    have e := List.dropLast_concat_getLast hne
    have ih := bits_all n b.dropLast (by rw [List.length_dropLast, h]; rfl) fun x hx => hb x ((List.dropLast_sublist _).subset hx)
    rw [bitsL, List.mem_flatMap]
    refine ⟨b.dropLast, ih, ?_⟩
    rcases hb _ (List.getLast_mem hne) with z | z
    · rw [z] at e; rw [← e]; simp
    · rw [z] at e; rw [← e]; simp
theorem mk_sg {ways : Int} {labels : List Str} {sets : List (List (List Int))} : ∀ (s : Sh) (p : List Int), s.Kd ways labels → (s.mk sets p).Sg ways labels sets.length
  | .e, _, _ => trivial
  | .w a c, p, h => by
    obtain ⟨h1, h2, h3⟩ := h
    refine ⟨h1, ⟨a, bitsOf sets p, h2, bits_all _ _ (by simp [bitsOf]) fun x hx => ?_, rfl⟩, mk_sg c _ h3⟩
    unfold bitsOf at hx
    obtain ⟨c, _, rfl⟩ := List.mem_map.mp hx
    split <;> simp
  | .t a l r, p, h => by
    obtain ⟨h1, h2, h3, h4⟩ := h
    refine ⟨h1, ⟨a, bitsOf sets p, h2, bits_all _ _ (by simp [bitsOf]) fun x hx => ?_, rfl⟩, mk_sg l _ h3, mk_sg r _ h4⟩
    unfold bitsOf at hx
    obtain ⟨c, _, rfl⟩ := List.mem_map.mp hx
    split <;> simp
theorem mk_size (sets : List (List (List Int))) : ∀ (s : Sh) (p : List Int), (s.mk sets p).size = s.size
  | .e, _ => rfl
  | .w a c, p => by rw [Sh.mk, Mt.size, mk_size sets c, Sh.size]
  | .t a l r, p => by rw [Sh.mk, Mt.size, mk_size sets l, mk_size sets r, Sh.size]
theorem sign_clean {x : Str} {b : List Int} (h : PyData.strOk x = true) (n : Nat) : cleanD (n + 3) (signD x b) = true := by
  unfold signD
  rw [cleanD, cleanDs, cleanDs, cleanDs, cleanD, h, path_clean b n]
  rfl
theorem sg_clean {ways : Int} {labels : List Str} {n : Nat} (hk : ∀ a ∈ labels, PyData.strOk a = true) : ∀ t : Mt, t.Sg ways labels n → ∀ m, t.size ≤ m → ∀ s ∈ t.pre, cleanD (m + 4) s.d = true
  | .e, _, m, _, s, hs => by
    rw [Mt.pre, List.mem_singleton] at hs
    subst hs
    rw [Mt.d, cleanD, cleanDs]
  | .w a c, h, m, hm, s, hs => by
    obtain ⟨_, ⟨x, b, hx, hb, rfl⟩, hc⟩ := h
    rw [Mt.size] at hm
    cases m with
    | zero => omega
    | succ m =>
      have ih := sg_clean hk c hc m (by omega)
      have hcs : c ∈ c.pre := by rw [c.pre_eq]; simp
      rw [Mt.pre, List.mem_cons] at hs
      rcases hs with rfl | hs
      · rw [Mt.d, cleanD, cleanDs, cleanDs, cleanDs, sign_clean (hk x hx) (m + 1), ih c hcs]
        rfl
      · exact sg_clean hk c hc (m + 1) (by omega) s hs
  | .t a l r, h, m, hm, s, hs => by
    obtain ⟨_, ⟨x, b, hx, hb, rfl⟩, hl, hr⟩ := h
    rw [Mt.size] at hm
    cases m with
    | zero => omega
    | succ m =>
      have ih1 := sg_clean hk l hl m (by omega)
      have ih2 := sg_clean hk r hr m (by omega)
      have hls : l ∈ l.pre := by rw [l.pre_eq]; simp
      have hrs : r ∈ r.pre := by rw [r.pre_eq]; simp
      rw [Mt.pre, List.mem_cons, List.mem_append] at hs
      rcases hs with rfl | hs | hs
      · rw [Mt.d, cleanD, cleanDs, cleanDs, cleanDs, cleanDs, sign_clean (hk x hx) (m + 1), ih1 l hls, ih2 r hrs]
        rfl
      · exact sg_clean hk l hl (m + 1) (by omega) s hs
      · exact sg_clean hk r hr (m + 1) (by omega) s hs
theorem path_good (p : List Int) (n : Nat) (h : p.length ≤ 1000) : goodD (n + 2) (pathD p) = true := by
  unfold pathD
  rw [goodD, List.length_map, decide_eq_true (by omega), goodDs_of fun d hd => by obtain ⟨i, _, rfl⟩ := List.mem_map.mp hd; rw [goodD]]
  rfl
theorem sign_good {x : Str} {b : List Int} (n : Nat) (h : b.length ≤ 1000) : goodD (n + 3) (signD x b) = true := by
  unfold signD
  rw [goodD, goodDs, goodDs, goodDs, goodD, path_good b n h]
  rfl
theorem signs_good (labels : List Str) (n : Nat) (hl : labels.length ≤ 4) (hn : n ≤ 3) : goodD 4 (.lst (signsL labels n)) = true := by
  have hsl := signs_len labels n
  have hle : labels.length * 2 ^ n ≤ 4 * 8 := Nat.mul_le_mul hl (pow3 hn)
  rw [goodD, decide_eq_true (by omega), goodDs_of fun d hd => ?_]
  · rfl
  · rw [signs_sgs] at hd
    obtain ⟨p, hp, rfl⟩ := List.mem_map.mp hd
    unfold sgs at hp
    obtain ⟨a, _, hp⟩ := List.mem_flatMap.mp hp
    obtain ⟨b, hb, rfl⟩ := List.mem_map.mp hp
    exact sign_good 0 (by rw [bits_mem n b hb]; omega)
theorem sg_good {ways : Int} {labels : List Str} {n : Nat} (hn : n ≤ 3) : ∀ t : Mt, t.Sg ways labels n → ∀ m, t.size ≤ m → goodD (m + 4) t.d = true
  | .e, _, m, _ => by rw [Mt.d, goodD, goodDs]; simp
  | .w a c, h, m, hm => by
    obtain ⟨_, ⟨x, b, hx, hb, rfl⟩, hc⟩ := h
    rw [Mt.size] at hm
    cases m with
    | zero => omega
    | succ m =>
      rw [Mt.d, goodD, goodDs, goodDs, goodDs, sign_good (m + 1) (by rw [bits_mem n b hb]; omega), sg_good hn c hc m (by omega)]
      rfl
  | .t a l r, h, m, hm => by
    obtain ⟨_, ⟨x, b, hx, hb, rfl⟩, hl, hr⟩ := h
    rw [Mt.size] at hm
    cases m with
    | zero => omega
    | succ m =>
      rw [Mt.d, goodD, goodDs, goodDs, goodDs, goodDs, sign_good (m + 1) (by rw [bits_mem n b hb]; omega), sg_good hn l hl m (by omega), sg_good hn r hr m (by omega)]
      rfl
end Y


set_option Elab.async false
set_option linter.all false
set_option maxRecDepth 100000
set_option maxHeartbeats 4000000
namespace Y
open PySem PySem.Spec PyProof.Rows L2 StX XS XC NdefX
local macro_rules | `(tactic| push_cast [$xs,*]) => `(tactic| repeat (first | (with_reducible first | refine g_c ?_ | (refine g_v ?_; first | refine g_var0 ?_ | refine g_var1 ?_ | refine g_var2 ?_ | refine g_var3 ?_ | refine g_var4 ?_ | refine g_var5 ?_ | refine g_var6 ?_ | refine g_var7 ?_ | refine g_var8 ?_ | refine g_var9 ?_ | refine g_var10 ?_ | refine g_var11 ?_ | refine g_var12 ?_ | refine g_var13 ?_ | refine g_var14 ?_ | refine g_var15 ?_)) | ((with_reducible refine lf_go fun Q hQ => ?_); simp only [FrzAt, sortSD, zipD, rslD, setSortD, finJ, slotsD, ix_dicK, ix_dicT, ix_dicP, in_dicK, in_dicT, in_dicP, pkeyOf, seqD, revSeqD, spreadS, truD, slD, tyOk, appD, popD, extD, itemsOf, negD, putD, putC, sizeC, ty_non, ty_bl, ty_int, ty_str, ty_tup, ty_ktup, ty_lst, ty_pin, kitS, intO, addD, subD, mulD, modD, fdivD, shlD, shrD, bandD, borD, eq_ii, eq_ss, eq_bb, eq_tt, eq_ll, eq_tk, ordD, ltD, leD, gtD, geD, in_tup, in_ktup, in_lst, in_str, in_pin, inSq_str, inSq_int, isND, isNon, isBD, ix_tup, ix_ktup, ix_lst, ix_str, ix_pin, lookC, keyOf, keysOf, valS_nil, valS_cons, putS_nil, putS_cons, mergeS, kgetD, kixD, revD, wipeD, allD, len_tup, len_ktup, len_lst, len_str, len_pin, intD, absD, sumD, boolsD, tupD, listD, listP, dictC, lstOf, sqOf, frzC, allB, allI, allDk, ofString_inj, atI_0, atI_1, atI_2, atI_3, atI_1m1, atI_2m1, atI_2m2, atI_3m1, atI_3m2, atI_4m1, atI_4m2, cut_1, cut_2, cut_to1, cut_to2, cut_none, allD_map, List.map_cons, List.map_nil, List.length_cons, List.length_nil, List.length_append, List.length_map, List.length_set, List.replicate, List.nil_append, List.cons_append, List.append_nil, List.append_assoc, List.getElem?_cons_zero, List.getElem?_cons_succ, List.getElem?_nil, List.set_cons_zero, List.set_cons_succ, List.find?_cons, List.find?_nil, List.any_cons, List.any_nil, List.foldl_cons, List.foldl_nil, List.isEmpty_cons, List.isEmpty_nil, List.dropLast_concat, get_new, get_new1, get_new2, get_new3, set_new, set_new1, set_new2, set_new3, Option.map_some, Option.map_none, Option.isSome_some, Option.isSome_none, Option.some.injEq, Sum.inr.injEq, Sum.inl.injEq, reduceCtorEq, if_true, if_false, ite_true, ite_false, Bool.false_eq_true, Bool.not_true, Bool.not_false, Bool.false_xor, Bool.true_xor, Bool.xor_false, Bool.xor_true, decide_true, decide_false, decide_eq_true_eq, true_and, and_true, false_and, and_false, Bool.or_true, Bool.or_false, Bool.true_or, Bool.false_or, Bool.and_true, Bool.and_false, Bool.true_and, Bool.false_and, not_true_eq_false, not_false_eq_true, Nat.reduceAdd, Nat.reduceSub, Nat.reduceLeDiff, Nat.reduceLT, Nat.reduceEqDiff, Nat.reduceMul, Int.reduceLE, Int.reduceLT, Int.reduceEq, Int.reduceAdd, Int.reduceSub, Int.reduceNeg, Int.reduceMul, Int.reduceToNat, String.reduceEq, String.reduceBEq, reduceIte, Int.cast_ofNat_Int, Nat.zero_add, rng_0, rng_1, rng_2, rng_3, Nat.add_one_sub_one, List.reverse_nil, strsOf_nil, strsOf_cons, strsOf_map, intsOf_nil, intsOf_cons, intsOf_map, List.mem_cons, List.not_mem_nil, or_false, false_or, or_true, true_or, allB_map, allI_map, allB_mapf, allI_mapf, get_newm, allD_app, allD_mapf, isEmpty_snoc, $xs,*]; subst hQ; try dsimp only) | (with_reducible first | refine g_op ?_ | refine g_cons ?_ | refine g_nil ?_ | refine g_test ?_ | refine g_asB ?_ | refine g_true ?_ | refine g_false ?_ | refine g_dec ?_ | refine g_seq ?_ | refine g_un ?_ | refine g_b ?_ | refine g_nt ?_ | refine g_ifS ?_ | refine g_ret ?_ | refine g_next ?_ | (refine g_st ?_; first | refine g_set0 ?_ | refine g_set1 ?_ | refine g_set2 ?_ | refine g_set3 ?_ | refine g_set4 ?_ | refine g_set5 ?_ | refine g_set6 ?_ | refine g_set7 ?_ | refine g_set8 ?_ | refine g_set9 ?_ | refine g_set10 ?_ | refine g_set11 ?_ | refine g_set12 ?_ | refine g_set13 ?_ | refine g_set14 ?_ | refine g_set15 ?_) | (refine g_gn ?_; first | refine g_gn0 ?_ | refine g_gn1 ?_ | refine g_gn2 ?_ | refine g_gn3 ?_ | refine g_gn4 ?_ | refine g_gn5 ?_ | refine g_gn6 ?_ | refine g_gn7 ?_ | refine g_gn8 ?_ | refine g_gn9 ?_ | refine g_gn10 ?_ | refine g_gn11 ?_ | refine g_gn12 ?_ | refine g_gn13 ?_ | refine g_gn14 ?_ | refine g_gn15 ?_) | refine g_lf1 ?_ | refine g_lf2 ?_ | refine g_notTv ?_ | refine g_andT ?_ | refine g_orT ?_ | refine g_notT ?_ | refine g_mt ?_ | refine g_mt0 ?_ | refine g_drop ?_ | refine g_tup ?_ | refine g_lstD ?_ | refine g_lst ?_ | refine g_if ?_ | refine g_call ?_ | refine g_callG ?_ | refine g_callX ?_ | refine g_callGX ?_ | refine g_tru ?_ | refine g_andV ?_ | refine g_orV ?_ | refine g_notV ?_ | refine g_sl ?_ | refine g_noPart ?_ | refine g_part ?_ | refine g_partI ?_ | refine g_chain ?_ | refine g_putS ?_ | refine g_isi ?_ | refine g_star ?_ | refine g_for ?_ | refine g_lc ?_ | refine g_seqI ?_ | refine g_revI ?_ | refine g_rng1 ?_ | refine g_rng2 ?_ | refine g_gNil ?_ | refine g_gCons ?_ | refine g_gTup2 ?_ | refine g_gTup3 ?_ | refine g_gTup4 ?_ | refine g_yes ?_ | refine g_retN ?_ | refine g_break ?_ | refine g_cont ?_ | refine g_finD ?_ | refine g_finD2 ?_ | refine g_finP ?_ | refine g_lcB ?_ | refine g_lcNil ?_ | refine g_lcCons ?_ | refine g_forNil ?_ | refine g_forCons ?_ | refine g_rtP ?_ | refine g_rtPin ?_ | refine g_disp ?_ | refine g_pairs0 ?_ | refine g_pairsS ?_ | refine g_pairsI ?_ | refine g_newK ?_ | refine g_newT ?_ | refine g_newP ?_ | refine g_zipI ?_ | refine g_revrng ?_ | refine g_lcN ?_ | refine g_mid ?_ | refine g_elt ?_ | refine g_lcTNil ?_ | refine g_lcTCons ?_ | refine g_dc ?_ | refine g_dcNil ?_ | refine g_dcCons ?_ | refine g_lam ?_ | refine g_callB ?_ | refine g_frz ?_ | refine g_loc rfl ?_ | refine g_locC rfl ?_) | ((with_reducible refine g_pos ?_ ?_); · first | assumption | rfl | omega) | ((with_reducible refine g_neg ?_ ?_); · first | assumption | omega | decide) | ((with_reducible refine And.intro ?_ ?_); · first | trivial | assumption | omega | exact Or.inr (by decide) | (dsimp only; omega) | (simp only [List.length_append, List.length_cons, List.length_nil, List.length_map, List.length_reverse]; omega) | (simp; done))))
local macro_rules | `(tactic| norm_cast) => `(tactic| ((first | with_reducible refine g_endsG ?_ | with_reducible refine g_endsP ?_); simp only [start_eq, List.map_cons, List.map_nil, List.replicate, List.length_cons, List.length_nil, Nat.reduceAdd, Nat.reduceSub, Nat.zero_add, List.cons_append, List.nil_append]))
theorem sc_law : FnScope ["script", "tape", "kind", "tracks", "machine", "listed", "shape", "sets", "k", "path", "marked", "state", "other"] ["script"] (defScope d_law) := ⟨rfl, rfl, rfl, by decide +kernel, rfl, by decide +kernel, by decide +kernel⟩
def GLaw : CG := fun ss ω q => ∃ ns : List Int, ss = [.d (.klst (ns.map .int))] ∧ ns.length ≤ 63 ∧ ω = [] ∧ ∀ ω', q (.d (.bl true)) ω'
theorem g_sortT {ps : List (List Int)} {ω : Sto} {q : S → Sto → Prop} (h0 : ∀ p0 r, ps = p0 :: r → p0 = []) (h : ∀ zs : List (List Int), SrtO.Srtd HT.lexLt zs → zs.Perm ps → q (.d (.lst (zs.map pathD))) ω) : Lf (sortTD [.d (.lst (ps.map pathD))] ω) q := ⟨ps, rfl, h0, h⟩
theorem Sh.paths_first (s : Sh) (p0 : List Int) (r : List (List Int)) (h : s.paths [] = p0 :: r) : p0 = [] := by
  cases s <;> simp [Sh.paths] at h <;> exact h.1
theorem law_in {w : World} [Tb w] {K : PySem.W.Frag} {G : CG} {H : Hp} (hT : ∀ p ∈ Tb.T (w := w), H p.1 = some (.tbl #[])) (h : ∀ ns : List Int, ns.length ≤ 63 → G [.d (.klst (ns.map .int))] [] fun s _ => s = .d (.bl true)) (H' : Hp) (a : Addr) (ns : List Int) (hn : ns.length ≤ 63) (hS : SqL K H' a (ns.map V.int)) (e : H = H' := by rfl) : spG (w := w) K G [.ref a] H' (fun v _ => v = .bl true) fun _ _ _ => False := by
  classical
  subst e
  let B : Hp := fun b => if ∃ p ∈ Tb.T (w := w), p.1 = b then none else H b
  have hB : ∀ b o, H b = some o → (∀ ps, o ≠ .tbl ps) → B b = some o := fun b o e n => by
    have : ¬ ∃ p ∈ Tb.T (w := w), p.1 = b := fun ⟨p, hp, z⟩ => by
      have := hT p hp
      rw [z, e] at this
      exact n _ (Option.some.inj this)
    show (if ∃ p ∈ Tb.T (w := w), p.1 = b then none else H b) = _
    rw [if_neg this]; exact e
  have gB : Same B H := fun b o e => by
    have e : (if ∃ p ∈ Tb.T (w := w), p.1 = b then none else H b) = some o := e
    split at e
    · cases e
    · exact e
  have hSB : SqL K B a (ns.map V.int) := by
    rcases hS with (h1 | ⟨o, h1⟩) | h1
    · exact .inl (.inl (hB _ _ h1 fun _ z => nomatch z))
    · exact .inl (.inr ⟨o, hB _ _ h1 fun _ z => nomatch z⟩)
    · exact .inr h1
  have rs : ∀ ns : List Int, Rs K B (ns.map V.int) (ns.map D.int) := fun ns => by
    induction ns with
    | nil => exact .nil
    | cons n ns ih => exact .cons (.int n) ih
  refine ⟨B, [], [], _, _, fun _ => False, gB, ⟨fun p hp => ⟨by simp, ?_, #[], hT p hp, ?_, fun pos cv hcv => ?_⟩, List.nodup_nil, rfl, by simp, by simp⟩, .cons (show RS K [] B (.ref a) (.d (.klst (ns.map D.int))) from .klst hSB (rs ns)) .nil, ⟨h ns hn, fun _ z => z⟩, fun s ω' v H' B' α' hq _ _ r => ?_, .never⟩
  · show (if ∃ q ∈ Tb.T (w := w), q.1 = p.1 then none else H p.1) = none
    rw [if_pos ⟨p, hp, rfl⟩]
  · first | trivial | exact LamX.triples_nil | simp [LamX.TriplesOk]
  · first | (simp [codeAmong] at hcv; done) | cases hcv
  · subst hq
    exact r_bl r
section
variable {P : Program} {w : World} [Tb w] {K : PySem.W.Frag} {mg : Str → Option Value} {base : Heap}
theorem fn_law {k : Nat} {f : Addr} {fd : FuncData} (F : Fun K "law" "law" d_law f fd) (bu : Bu mg) (c__law_tape : Cal P w K mg base CX0 k "_law_tape" ["script"] (spG K GTape)) (c__law_take : Cal P w K mg base CX0 k "_law_take" ["tape", "many"] (spG K GTake)) (c__law_kind : Cal P w K mg base CX0 k "_law_kind" ["tape"] (spG K GKind)) (c__law_shape : Cal P w K mg base CX0 k "_law_shape" ["tape", "kind", "count"] (spG K (GShape 10)))
    (c__law_paths : Cal P w K mg base CX0 k "_law_paths" ["shape", "path"] (spP K (CPaths 61))) (c__law_draw_machine : Cal P w K mg base CX0 k "_law_draw_machine" ["tape", "kind", "tracks", "many"] (spG K GDraw)) (c__law_signs : Cal P w K mg base CX0 k "_law_signs" ["kind", "tracks"] (spP K CLSigns)) (c__law_same : Cal P w K mg base CX0 k "_law_same" ["actual", "expected"] (spP K (CSame 20))) (c_signs : Cal P w K mg base CX0 k "signs" ["kind", "tracks"] (spP K CSigns)) (c_is_machine : Cal P w K mg base CX0 k "is_machine" ["value"] (spP K CIsM))
    (c__law_marked : Cal P w K mg base CX0 k "_law_marked" ["shape", "path", "sets"] (spP K (CLMark2 61))) (c_mark : Cal P w K mg base CX0 k "mark" ["shape", "sets"] (spP K CMark)) (c__law_run : Cal P w K mg base CX0 k "_law_run" ["machine", "marked", "rows"] (spP K (CLRun 61))) (c__law_rows : Cal P w K mg base CX0 k "_law_rows" ["kind", "tracks"] (spP K CLRows)) (c_state_of : Cal P w K mg base CX0 k "state_of" ["machine", "marked"] (spP K CStateOf)) (c_accepts : Cal P w K mg base CX0 k "accepts" ["machine", "marked"] (spP K CAccepts)) (c__law_spoilt : Cal P w K mg base CX0 k "_law_spoilt" ["tape", "machine"] (spG K GSpoilt)) (c__law_is_machine : Cal P w K mg base CX0 k "_law_is_machine" ["value"] (spP K CIsM)) :
    FnOk P w K mg base CX0 (k + 1) f fd ["script"] (spG K GLaw) := by
  refine fnG F sc_law (fun ss ω q h => ?_) fun cdv A outer s H E ss ω q hr h => ?_
  · obtain ⟨ns, rfl, _⟩ := h
    rfl
  have hu := hu_of hr
  have hu64 := hr.units
  have hpass := @PassesOwn.never
  obtain ⟨ns, rfl, hn, rfl, hq⟩ := h
  refine ⟨_, _, (ys_cons (y_set (i := 1) sc_law.nd rfl (y_calG c__law_tape hr (ya_cons (y_var 0) ya_nil)))
      (ys_cons (y_set (i := 2) sc_law.nd rfl (y_calG c__law_kind hr (ya_cons (y_var 1) ya_nil)))
      (ys_cons (y_set (i := 3) sc_law.nd rfl (y_calG c__law_take hr (ya_cons (y_var 1) (ya_cons y_int ya_nil))))
      (ys_cons (y_set (i := 4) sc_law.nd rfl (y_calG c__law_draw_machine hr (ya_cons (y_var 1) (ya_cons (y_var 2) (ya_cons (y_var 3) (ya_cons (y_add y_int (y_calG c__law_take hr (ya_cons (y_var 1) (ya_cons y_int ya_nil)))) ya_nil))))))
      (ys_cons (y_set (i := 5) sc_law.nd rfl (y_cal c__law_signs hr (ya_cons (y_var 2) (ya_cons (y_var 3) ya_nil))))
      (ys_cons (y_ifS (yt_w (yw_or (yt_not (yt_tru (y_cal c__law_same hr (ya_cons (y_cal c_signs hr (ya_cons (y_var 2) (ya_cons (y_var 3) ya_nil))) (ya_cons (y_var 5) ya_nil))))) (yw_or1 (yt_not (yt_cmp op_isTr refO_isTr (y_cal c_is_machine hr (ya_cons (y_var 4) ya_nil)) y_bl (nomark _)))))) (ys_one (y_ret y_bl)) ys_nil)
      (ys_cons (y_set (i := 6) sc_law.nd rfl (y_calG c__law_shape hr (ya_cons (y_var 1) (ya_cons (y_var 2) (ya_cons (y_calG c__law_take hr (ya_cons (y_var 1) (ya_cons y_int ya_nil))) ya_nil)))))
      (ys_cons (y_set (i := 7) sc_law.nd rfl (y_lst ya_nil))
      (ys_cons (y_for hpass rfl (yi_range1 bu.range (ya_cons (y_var 3) ya_nil)) (yg_name (i := 8) sc_law.nd rfl) (ys_one (y_expr (y_append (y_var 7) (ya_cons (y_tupC bu (ya_cons (y_lcD (own := [("path", 9)]) rfl sc_law.nd (yi_seq (y_sortedT bu (in2_units hr) (ya_cons (y_cal c__law_paths hr (ya_cons (y_var 6) (ya_cons (y_tup ya_nil) ya_nil))) ya_nil))) (blkOk_by (own := [("path", 9)]) (N := ["script", "tape", "kind", "tracks", "machine", "listed", "shape", "sets", "k", "path", "marked", "state", "other"]) (sc := defScope d_law) (by decide +kernel)) go_name (fun _ _ _ _ _ => (yg_name (i := 9) sc_law.nd rfl)) (fun _ _ _ _ _ => (yts_one (yt_cmp (op_eqY hu64) refO_eq (y_calG c__law_take hr (ya_cons (y_var 1) (ya_cons y_int ya_nil))) y_int (nomark _)))) (fun _ _ _ _ _ => (y_var 9))) ya_nil)) ya_nil)))))
      (ys_frz 7 (ys_cons (y_set (i := 10) sc_law.nd rfl (y_cal c__law_marked hr (ya_cons (y_var 6) (ya_cons (y_tup ya_nil) (ya_cons (y_var 7) ya_nil)))))
      (ys_cons (y_ifS (yt_not (yt_tru (y_cal c__law_same hr (ya_cons (y_cal c_mark hr (ya_cons (y_var 6) (ya_cons (y_var 7) ya_nil))) (ya_cons (y_var 10) ya_nil))))) (ys_one (y_ret y_bl)) ys_nil)
      (ys_cons (y_set (i := 11) sc_law.nd rfl (y_cal c__law_run hr (ya_cons (y_var 4) (ya_cons (y_var 10) (ya_cons (y_cal c__law_rows hr (ya_cons (y_var 2) (ya_cons (y_var 3) ya_nil))) ya_nil)))))
      (ys_cons (y_ifS (yt_w (yw_or (yt_not (yt_tru (y_cal c__law_same hr (ya_cons (y_cal c_state_of hr (ya_cons (y_var 4) (ya_cons (y_var 10) ya_nil))) (ya_cons (y_var 11) ya_nil))))) (yw_or1 (yt_not (yt_tru (y_cal c__law_same hr (ya_cons (y_cal c_accepts hr (ya_cons (y_var 4) (ya_cons (y_var 10) ya_nil))) (ya_cons (y_ix hu (y_ix hu (y_var 4) y_int (fun _ _ => rfl)) (y_var 11) (fun _ _ => rfl)) ya_nil)))))))) (ys_one (y_ret y_bl)) ys_nil)
      (ys_cons (y_set (i := 12) sc_law.nd rfl (y_calG c__law_spoilt hr (ya_cons (y_var 1) (ya_cons (y_var 4) ya_nil))))
      (ys_one (y_ret (y_cal c__law_same hr (ya_cons (y_cal c_is_machine hr (ya_cons (y_var 12) ya_nil)) (ya_cons (y_cal c__law_is_machine hr (ya_cons (y_var 12) ya_nil)) ya_nil)))))))))))))))))))), ?_⟩
  norm_cast
  push_cast []
  refine ⟨ns, rfl, hn, fun c hc => ?_⟩
  push_cast []
  refine ⟨0, c, rfl, rfl, hc, fun ways labels c1 hk hc1 => ?_⟩
  push_cast []
  refine ⟨0, 3, c1, rfl, rfl, hc1, by omega, by omega, fun z0 c2 hc2 h0 h1 => ?_⟩
  obtain ⟨n, rfl⟩ := Int.eq_ofNat_of_zero_le h0
  have hn3 : n ≤ 2 := by omega
  push_cast []
  refine ⟨0, 5, c2, rfl, rfl, hc2, by omega, by omega, fun z1 c3 hc3 h2 h3 => ?_⟩
  obtain ⟨m0, rfl⟩ := Int.eq_ofNat_of_zero_le h2
  push_cast []
  have hm1 : (1 : Int) + (m0 : Nat) = ((1 + m0 : Nat) : Int) := by omega
  rw [hm1]
  have hls := kdL_ls6 hk.2.2.2.2
  refine ⟨0, c3, ways, labels, n, 1 + m0, rfl, rfl, hc3, hk.1, by omega, by omega, by omega, by omega, fun table good c4 x hG hc4 => ?_⟩
  have hA := hG.any hk hn3 (by omega) (by omega)
  have hok : okM ways labels n table good = true := by
    unfold okM
    rw [hls.2.1, decide_eq_true hG.tl, List.all_eq_true.mpr hG.gb, hG.gl, List.all_eq_true.mpr hG.rows]
    rfl
  push_cast []
  refine ⟨ways, labels, n, rfl, by omega, by omega, ?_⟩
  push_cast []
  refine ⟨ways, labels, n, rfl, hk.1, hls.1, hls.2.1, by omega, ?_⟩
  push_cast []
  have gs := signs_good labels n (by omega) (by omega)
  have gs20 : goodD 20 (.lst (signsL labels n)) = true := by
    have hsl := signs_len labels n
    have hle : labels.length * 2 ^ n ≤ 4 * 8 := Nat.mul_le_mul (by omega) (pow3 (by omega))
    rw [goodD, decide_eq_true (by omega), goodDs_of fun d hd => ?_]
    · rfl
    · rw [signs_sgs] at hd
      obtain ⟨p, hp, rfl⟩ := List.mem_map.mp hd
      unfold sgs at hp
      obtain ⟨a, _, hp⟩ := List.mem_flatMap.mp hp
      obtain ⟨b, hb, rfl⟩ := List.mem_map.mp hp
      exact sign_good 16 (by rw [bits_mem n b hb]; omega)
  refine ⟨_, _, 20, rfl, gs20, gs20, by omega, ?_⟩
  rw [same_self 20 _ gs20]
  push_cast []
  refine ⟨ways, labels, n, table, good, rfl, hA, ?_⟩
  rw [hok]
  push_cast []
  refine ⟨0, 10, c4, rfl, rfl, hc4, by omega, by omega, fun z2 c5 hc5 h4 h5 => ?_⟩
  obtain ⟨sz, rfl⟩ := Int.eq_ofNat_of_zero_le h4
  push_cast []
  refine ⟨0, c5, ways, labels, sz, rfl, by omega, by omega, rfl, hc5, hk, fun sh c6 hsz hkd hc6 => ?_⟩
  have h62n : int62 (n : Nat) := ⟨by omega, by omega⟩
  have hpl := sh.paths_len []
  push_cast []
  have hmd : ∃ M : D, M = machD ways labels n table good := ⟨_, rfl⟩
  refine for_rng (n := ((n : Nat) : Int).toNat) (fun i ρ ω' => ∃ (ss : List (List (List Int))) (c : Cell) (y z : Option S), ρ = [some (.d (.klst (ns.map .int))), some (.pin 0), some (.d (kindD ways labels)), some (.d (.int (n : Nat))), some (.d (machD ways labels n table good)), some (.d (.lst (signsL labels n))), some (.d sh.d), some (.pin 2), y, z, none, none, none] ∧ ω' = [c, x, .lst (ss.map fun c => .d (.tup (c.map pathD)))] ∧ Tp c ∧ ss.length = i ∧ ∀ c ∈ ss, c.length ≤ 60) ⟨[], c6, none, none, rfl, rfl, hc6, rfl, by simp⟩ (fun i ρ ω' nx' hi h hnx => ?_) (fun ρ ω' h => ?_)
  · obtain ⟨ss, c, y, z, rfl, rfl, hc, hsl, hsm⟩ := h
    push_cast []
    refine ⟨sh, [], ways, labels, rfl, by omega, by omega, by simp; omega, hk, hkd, ?_⟩
    push_cast []
    refine g_sortT sh.paths_first fun zs _ hperm => ?_
    have hzl : zs.length = sz := by rw [hperm.length_eq, hpl, hsz]
    push_cast []
    refine lc_ind (fun is acc ω' => ∃ (r done : List (List Int)) (c : Cell), is = (r.map pathD).map S.d ∧ acc = (done.map pathD).map S.d ∧ Tp c ∧ ω' = [c, x, .lst (ss.map fun c => .d (.tup (c.map pathD)))] ∧ done.length + r.length ≤ sz) ⟨zs, [], c, rfl, rfl, hc, rfl, by simp; omega⟩ (fun s0 r0 acc ω' kk h hk2 => ?_) (fun acc ω' h => ?_)
    · obtain ⟨r, done, c, e1, rfl, hc, rfl, e2⟩ := h
      cases r with
      | nil => cases e1
      | cons u r =>
        rw [List.map_cons, List.map_cons] at e1
        obtain ⟨rfl, rfl⟩ := List.cons.inj e1
        rw [List.length_cons] at e2
        push_cast []
        refine ⟨0, 2, c, rfl, rfl, hc, by omega, by omega, fun z4 c7 hc7 y0 y1 => ?_⟩
        push_cast []
        by_cases hz : z4 = 1
        · push_cast [hz]
          exact hk2 _ _ ⟨r, done ++ [u], c7, rfl, by simp, hc7, rfl, by rw [List.length_append, List.length_singleton]; omega⟩
        · push_cast [hz]
          exact hk2 _ _ ⟨r, done, c7, rfl, rfl, hc7, rfl, by omega⟩
    · obtain ⟨r, done, c, e1, rfl, hc, rfl, e2⟩ := h
      push_cast []
      refine hnx _ _ trivial ⟨ss ++ [done], c, _, _, rfl, by simp, hc, by simp [hsl], fun c2 hc2 => ?_⟩
      rcases List.mem_append.mp hc2 with hc2 | hc2
      · exact hsm c2 hc2
      · rw [List.mem_singleton.mp hc2]; omega
  · obtain ⟨ss, c, y, z, rfl, rfl, hc, hsl, hsm⟩ := h
    rw [Int.toNat_natCast] at hsl
    subst hsl
    have hall : allD (ss.map fun c => S.d (.tup (c.map pathD))) = some (ss.map fun c => .tup (c.map pathD)) := allD_mapf (f := fun c : List (List Int) => D.tup (c.map pathD))
    push_cast [hall]
    refine ⟨sh, [], ss, ways, labels, rfl, by omega, by omega, by simp; omega, by omega, hk, hkd, ?_⟩
    have hsg : (sh.mk ss []).Sg ways labels ss.length := mk_sg sh [] hkd
    have hmz := mk_size ss sh []
    have hgood : goodD 20 (sh.mk ss []).d = true := sg_good (by omega) _ hsg 16 (by omega)
    have hclean := sg_clean (fun a ha => (hk.2.2.2.1 a ha).1) _ hsg 16 (by omega)
    obtain ⟨r1, r2, r3⟩ := run_ok hG (by omega) _ hsg
    push_cast []
    refine ⟨sh, ss, rfl, by omega, by omega, fun c hc => by have := hsm c hc; omega, ?_⟩
    push_cast []
    refine ⟨_, _, 20, rfl, hgood, hgood, by omega, ?_⟩
    rw [same_self 20 _ hgood]
    push_cast []
    refine ⟨ways, labels, ss.length, rfl, by omega, by omega, ?_⟩
    push_cast []
    refine ⟨ways, labels, ss.length, table, good, sh.mk ss [], Mt.run labels ss.length table, rfl, hG.tl, by omega, fun s hs => okD_of (hclean s hs) (by omega), r1, ?_⟩
    push_cast []
    refine ⟨ways, labels, ss.length, table, good, sh.mk ss [], Mt.run labels ss.length table, rfl, hk.1, hls.1, hls.2.1, by omega, hG.tl, by omega, r1, ?_⟩
    push_cast []
    refine ⟨_, _, 20, rfl, rfl, rfl, by omega, ?_⟩
    rw [same_self 20 _ rfl]
    obtain ⟨rn, hrn⟩ := Int.eq_ofNat_of_zero_le r2
    have hlt : rn < good.length := by have := hG.gl; omega
    have hat : atI good ((sh.mk ss []).run labels ss.length table) = some good[rn] := by rw [hrn, atI_nat, List.getElem?_eq_getElem hlt]
    have hgb := hG.gb _ (List.getElem_mem hlt)
    have hgg : goodD 20 good[rn] = true := by
      cases e : good[rn] with
      | bl b => rfl
      | _ => rw [e] at hgb; simp [isB] at hgb
    push_cast []
    refine ⟨ways, labels, ss.length, table, good, sh.mk ss [], Mt.run labels ss.length table, good[rn], rfl, hk.1, hls.1, hls.2.1, by omega, hG.tl, by omega, r1, hat, ?_⟩
    unfold machD
    push_cast [hat]
    refine ⟨_, _, 20, rfl, hgg, hgg, by omega, ?_⟩
    rw [same_self 20 _ hgg]
    push_cast []
    refine ⟨0, c, ways, labels, ss.length, 1 + m0, table, good, rfl, rfl, hc, hk, hn3, by omega, by omega, hG, fun ways' labels' n' table' good' c' hA' => ?_⟩
    push_cast []
    refine ⟨ways', labels', n', table', good', rfl, hA', ?_⟩
    push_cast []
    refine ⟨ways', labels', n', table', good', rfl, hA', ?_⟩
    push_cast []
    refine ⟨_, _, 20, rfl, rfl, rfl, by omega, ?_⟩
    rw [same_self 20 _ rfl]
    push_cast []
    exact hq _
end
end Y


set_option Elab.async false
set_option linter.all false
set_option maxRecDepth 100000
set_option maxHeartbeats 4000000
namespace Y
open PySem PySem.Spec PyProof.Rows L2 LamX
theorem all_mk {l : PySem.W.OpenLaw} {w : World} {K : PySem.W.Frag} {h : Heap} {mg : Str → Option Value} {fa : Addr} (X : K.In h) (G : h.Ns mainGlobals mg) (hfa : mg "law" = some (.ref fa))
    {f0 f1 f2 f3 f4 f5 f6 f7 f8 f9 f10 f11 f12 f13 f14 f15 f16 f17 f18 f19 f20 f21 f22 f23 f24 f25 f26 f27 f28 f29 f30 f31 f32 f33 : Addr} {od0 an0 od1 an1 od2 an2 od3 an3 od4 an4 od5 an5 od6 an6 od7 an7 od8 an8 od9 an9 od10 an10 od11 an11 od12 an12 od13 an13 od14 an14 od15 an15 od16 an16 od17 an17 od18 an18 od19 an19 od20 an20 od21 an21 od22 an22 od23 an23 od24 an24 od25 an25 od26 an26 od27 an27 od28 an28 od29 an29 od30 an30 od31 an31 od32 an32 od33 an33 : Option Addr} {sl0 sl1 sl2 sl3 sl4 sl5 sl6 sl7 sl8 sl9 sl10 sl11 sl12 sl13 sl14 sl15 sl16 sl17 sl18 sl19 sl20 sl21 sl22 sl23 sl24 sl25 sl26 sl27 sl28 sl29 sl30 sl31 sl32 sl33 : Array (Option Value)} {oc0 kV0 dc0 pm0 ct0 cd0 oc1 kV1 dc1 pm1 ct1 cd1 oc2 kV2 dc2 pm2 ct2 cd2 oc3 kV3 dc3 pm3 ct3 cd3 oc4 kV4 dc4 pm4 ct4 cd4 oc5 kV5 dc5 pm5 ct5 cd5 oc6 kV6 dc6 pm6 ct6 cd6 oc7 kV7 dc7 pm7 ct7 cd7 oc8 kV8 dc8 pm8 ct8 cd8 oc9 kV9 dc9 pm9 ct9 cd9 oc10 kV10 dc10 pm10 ct10 cd10 oc11 kV11 dc11 pm11 ct11 cd11 oc12 kV12 dc12 pm12 ct12 cd12 oc13 kV13 dc13 pm13 ct13 oc14 kV14 dc14 pm14 ct14 cd14 oc15 kV15 dc15 pm15 ct15 cd15 oc16 kV16 dc16 pm16 ct16 cd16 oc17 kV17 dc17 pm17 ct17 cd17 oc18 kV18 dc18 pm18 ct18 cd18 oc19 kV19 dc19 pm19 ct19 cd19 oc20 kV20 dc20 pm20 ct20 cd20 oc21 kV21 dc21 pm21 ct21 cd21 oc22 kV22 dc22 pm22 ct22 cd22 oc23 kV23 dc23 pm23 ct23 cd23 oc24 kV24 dc24 pm24 ct24 cd24 oc25 kV25 dc25 pm25 ct25 cd25 oc26 kV26 dc26 pm26 ct26 cd26 oc27 kV27 dc27 pm27 ct27 cd27 oc28 kV28 dc28 pm28 ct28 cd28 oc29 kV29 dc29 pm29 ct29 cd29 oc30 kV30 dc30 pm30 ct30 cd30 oc31 kV31 dc31 pm31 ct31 cd31 oc32 kV32 dc32 pm32 ct32 cd32 oc33 kV33 dc33 pm33 ct33 cd33 : Value} {Pt cL : Addr} {t_MOST_LABELS t_MOST_TRACKS t_MOST_STATES : Tok}
    (a0 : PySem.W.nsIn K mainGlobals "entry" = some (some (.ref f0))) (l0 : K.lookup f0 = some ⟨oc0, od0, .func (PySem.W.fnOf "entry" "entry" (defArgs d_entry) (defBody d_entry) (defScope d_entry) .none kV0 dc0 pm0 an0 cd0 ct0), sl0⟩) (c0 : PySem.W.codeIn K cd0 "entry" = true) (k0 : PySem.W.keepIn K (.ref f0) = true)
    (a1 : PySem.W.nsIn K mainGlobals "is_whole" = some (some (.ref f1))) (l1 : K.lookup f1 = some ⟨oc1, od1, .func (PySem.W.fnOf "is_whole" "is_whole" (defArgs d_is_whole) (defBody d_is_whole) (defScope d_is_whole) .none kV1 dc1 pm1 an1 cd1 ct1), sl1⟩) (c1 : PySem.W.codeIn K cd1 "is_whole" = true) (k1 : PySem.W.keepIn K (.ref f1) = true)
    (a2 : PySem.W.nsIn K mainGlobals "is_kind" = some (some (.ref f2))) (l2 : K.lookup f2 = some ⟨oc2, od2, .func (PySem.W.fnOf "is_kind" "is_kind" (defArgs d_is_kind) (defBody d_is_kind) (defScope d_is_kind) .none kV2 dc2 pm2 an2 cd2 ct2), sl2⟩) (c2 : PySem.W.codeIn K cd2 "is_kind" = true) (k2 : PySem.W.keepIn K (.ref f2) = true)
    (a3 : PySem.W.nsIn K mainGlobals "_is_letter" = some (some (.ref f3))) (l3 : K.lookup f3 = some ⟨oc3, od3, .func (PySem.W.fnOf "_is_letter" "_is_letter" (defArgs d__is_letter) (defBody d__is_letter) (defScope d__is_letter) .none kV3 dc3 pm3 an3 cd3 ct3), sl3⟩) (c3 : PySem.W.codeIn K cd3 "_is_letter" = true) (k3 : PySem.W.keepIn K (.ref f3) = true)
    (a4 : PySem.W.nsIn K mainGlobals "check_kind" = some (some (.ref f4))) (l4 : K.lookup f4 = some ⟨oc4, od4, .func (PySem.W.fnOf "check_kind" "check_kind" (defArgs d_check_kind) (defBody d_check_kind) (defScope d_check_kind) .none kV4 dc4 pm4 an4 cd4 ct4), sl4⟩) (c4 : PySem.W.codeIn K cd4 "check_kind" = true) (k4 : PySem.W.keepIn K (.ref f4) = true)
    (a5 : PySem.W.nsIn K mainGlobals "_parts" = some (some (.ref f5))) (l5 : K.lookup f5 = some ⟨oc5, od5, .func (PySem.W.fnOf "_parts" "_parts" (defArgs d__parts) (defBody d__parts) (defScope d__parts) .none kV5 dc5 pm5 an5 cd5 ct5), sl5⟩) (c5 : PySem.W.codeIn K cd5 "_parts" = true) (k5 : PySem.W.keepIn K (.ref f5) = true)
    (a6 : PySem.W.nsIn K mainGlobals "labels_of" = some (some (.ref f6))) (l6 : K.lookup f6 = some ⟨oc6, od6, .func (PySem.W.fnOf "labels_of" "labels_of" (defArgs d_labels_of) (defBody d_labels_of) (defScope d_labels_of) .none kV6 dc6 pm6 an6 cd6 ct6), sl6⟩) (c6 : PySem.W.codeIn K cd6 "labels_of" = true) (k6 : PySem.W.keepIn K (.ref f6) = true)
    (a7 : PySem.W.nsIn K mainGlobals "folded" = some (some (.ref f7))) (l7 : K.lookup f7 = some ⟨oc7, od7, .func (PySem.W.fnOf "folded" "folded" (defArgs d_folded) (defBody d_folded) (defScope d_folded) .none kV7 dc7 pm7 an7 cd7 ct7), sl7⟩) (c7 : PySem.W.codeIn K cd7 "folded" = true) (k7 : PySem.W.keepIn K (.ref f7) = true)
    (a8 : PySem.W.nsIn K mainGlobals "with_labels" = some (some (.ref f8))) (l8 : K.lookup f8 = some ⟨oc8, od8, .func (PySem.W.fnOf "with_labels" "with_labels" (defArgs d_with_labels) (defBody d_with_labels) (defScope d_with_labels) .none kV8 dc8 pm8 an8 cd8 ct8), sl8⟩) (c8 : PySem.W.codeIn K cd8 "with_labels" = true) (k8 : PySem.W.keepIn K (.ref f8) = true)
    (a9 : PySem.W.nsIn K mainGlobals "paths" = some (some (.ref f9))) (l9 : K.lookup f9 = some ⟨oc9, od9, .func (PySem.W.fnOf "paths" "paths" (defArgs d_paths) (defBody d_paths) (defScope d_paths) .none kV9 dc9 pm9 an9 cd9 ct9), sl9⟩) (c9 : PySem.W.codeIn K cd9 "paths" = true) (k9 : PySem.W.keepIn K (.ref f9) = true)
    (a10 : PySem.W.nsIn K mainGlobals "is_machine" = some (some (.ref f10))) (l10 : K.lookup f10 = some ⟨oc10, od10, .func (PySem.W.fnOf "is_machine" "is_machine" (defArgs d_is_machine) (defBody d_is_machine) (defScope d_is_machine) .none kV10 dc10 pm10 an10 cd10 ct10), sl10⟩) (c10 : PySem.W.codeIn K cd10 "is_machine" = true) (k10 : PySem.W.keepIn K (.ref f10) = true)
    (a11 : PySem.W.nsIn K mainGlobals "_is_row" = some (some (.ref f11))) (l11 : K.lookup f11 = some ⟨oc11, od11, .func (PySem.W.fnOf "_is_row" "_is_row" (defArgs d__is_row) (defBody d__is_row) (defScope d__is_row) .none kV11 dc11 pm11 an11 cd11 ct11), sl11⟩) (c11 : PySem.W.codeIn K cd11 "_is_row" = true) (k11 : PySem.W.keepIn K (.ref f11) = true)
    (a12 : PySem.W.nsIn K mainGlobals "signs" = some (some (.ref f12))) (l12 : K.lookup f12 = some ⟨oc12, od12, .func (PySem.W.fnOf "signs" "signs" (defArgs d_signs) (defBody d_signs) (defScope d_signs) .none kV12 dc12 pm12 an12 cd12 ct12), sl12⟩) (c12 : PySem.W.codeIn K cd12 "signs" = true) (k12 : PySem.W.keepIn K (.ref f12) = true)
    (a13 : PySem.W.nsIn K mainGlobals "state_of" = some (some (.ref f13))) (l13 : K.lookup f13 = some ⟨oc13, od13, .func (PySem.W.fnOf "state_of" "state_of" (defArgs d_state_of) (defBody d_state_of) (defScope d_state_of) .none kV13 dc13 pm13 an13 (.ref cL) ct13), sl13⟩) (c13 : PySem.W.codeIn K (.ref cL) "state_of" = true) (k13 : PySem.W.keepIn K (.ref f13) = true)
    (a14 : PySem.W.nsIn K mainGlobals "accepts" = some (some (.ref f14))) (l14 : K.lookup f14 = some ⟨oc14, od14, .func (PySem.W.fnOf "accepts" "accepts" (defArgs d_accepts) (defBody d_accepts) (defScope d_accepts) .none kV14 dc14 pm14 an14 cd14 ct14), sl14⟩) (c14 : PySem.W.codeIn K cd14 "accepts" = true) (k14 : PySem.W.keepIn K (.ref f14) = true)
    (a15 : PySem.W.nsIn K mainGlobals "mark" = some (some (.ref f15))) (l15 : K.lookup f15 = some ⟨oc15, od15, .func (PySem.W.fnOf "mark" "mark" (defArgs d_mark) (defBody d_mark) (defScope d_mark) .none kV15 dc15 pm15 an15 cd15 ct15), sl15⟩) (c15 : PySem.W.codeIn K cd15 "mark" = true) (k15 : PySem.W.keepIn K (.ref f15) = true)
    (a16 : PySem.W.nsIn K mainGlobals "_law_tape" = some (some (.ref f16))) (l16 : K.lookup f16 = some ⟨oc16, od16, .func (PySem.W.fnOf "_law_tape" "_law_tape" (defArgs d__law_tape) (defBody d__law_tape) (defScope d__law_tape) .none kV16 dc16 pm16 an16 cd16 ct16), sl16⟩) (c16 : PySem.W.codeIn K cd16 "_law_tape" = true) (k16 : PySem.W.keepIn K (.ref f16) = true)
    (a17 : PySem.W.nsIn K mainGlobals "_law_take" = some (some (.ref f17))) (l17 : K.lookup f17 = some ⟨oc17, od17, .func (PySem.W.fnOf "_law_take" "_law_take" (defArgs d__law_take) (defBody d__law_take) (defScope d__law_take) .none kV17 dc17 pm17 an17 cd17 ct17), sl17⟩) (c17 : PySem.W.codeIn K cd17 "_law_take" = true) (k17 : PySem.W.keepIn K (.ref f17) = true)
    (a18 : PySem.W.nsIn K mainGlobals "_law_is_integer" = some (some (.ref f18))) (l18 : K.lookup f18 = some ⟨oc18, od18, .func (PySem.W.fnOf "_law_is_integer" "_law_is_integer" (defArgs d__law_is_integer) (defBody d__law_is_integer) (defScope d__law_is_integer) .none kV18 dc18 pm18 an18 cd18 ct18), sl18⟩) (c18 : PySem.W.codeIn K cd18 "_law_is_integer" = true) (k18 : PySem.W.keepIn K (.ref f18) = true)
    (a19 : PySem.W.nsIn K mainGlobals "_law_same_items" = some (some (.ref f19))) (l19 : K.lookup f19 = some ⟨oc19, od19, .func (PySem.W.fnOf "_law_same_items" "_law_same_items" (defArgs d__law_same_items) (defBody d__law_same_items) (defScope d__law_same_items) .none kV19 dc19 pm19 an19 cd19 ct19), sl19⟩) (c19 : PySem.W.codeIn K cd19 "_law_same_items" = true) (k19 : PySem.W.keepIn K (.ref f19) = true)
    (a20 : PySem.W.nsIn K mainGlobals "_law_same" = some (some (.ref f20))) (l20 : K.lookup f20 = some ⟨oc20, od20, .func (PySem.W.fnOf "_law_same" "_law_same" (defArgs d__law_same) (defBody d__law_same) (defScope d__law_same) .none kV20 dc20 pm20 an20 cd20 ct20), sl20⟩) (c20 : PySem.W.codeIn K cd20 "_law_same" = true) (k20 : PySem.W.keepIn K (.ref f20) = true)
    (a21 : PySem.W.nsIn K mainGlobals "_law_kind" = some (some (.ref f21))) (l21 : K.lookup f21 = some ⟨oc21, od21, .func (PySem.W.fnOf "_law_kind" "_law_kind" (defArgs d__law_kind) (defBody d__law_kind) (defScope d__law_kind) .none kV21 dc21 pm21 an21 cd21 ct21), sl21⟩) (c21 : PySem.W.codeIn K cd21 "_law_kind" = true) (k21 : PySem.W.keepIn K (.ref f21) = true)
    (a22 : PySem.W.nsIn K mainGlobals "_law_shape" = some (some (.ref f22))) (l22 : K.lookup f22 = some ⟨oc22, od22, .func (PySem.W.fnOf "_law_shape" "_law_shape" (defArgs d__law_shape) (defBody d__law_shape) (defScope d__law_shape) .none kV22 dc22 pm22 an22 cd22 ct22), sl22⟩) (c22 : PySem.W.codeIn K cd22 "_law_shape" = true) (k22 : PySem.W.keepIn K (.ref f22) = true)
    (a23 : PySem.W.nsIn K mainGlobals "_law_paths" = some (some (.ref f23))) (l23 : K.lookup f23 = some ⟨oc23, od23, .func (PySem.W.fnOf "_law_paths" "_law_paths" (defArgs d__law_paths) (defBody d__law_paths) (defScope d__law_paths) .none kV23 dc23 pm23 an23 cd23 ct23), sl23⟩) (c23 : PySem.W.codeIn K cd23 "_law_paths" = true) (k23 : PySem.W.keepIn K (.ref f23) = true)
    (a24 : PySem.W.nsIn K mainGlobals "_law_signs" = some (some (.ref f24))) (l24 : K.lookup f24 = some ⟨oc24, od24, .func (PySem.W.fnOf "_law_signs" "_law_signs" (defArgs d__law_signs) (defBody d__law_signs) (defScope d__law_signs) .none kV24 dc24 pm24 an24 cd24 ct24), sl24⟩) (c24 : PySem.W.codeIn K cd24 "_law_signs" = true) (k24 : PySem.W.keepIn K (.ref f24) = true)
    (a25 : PySem.W.nsIn K mainGlobals "_law_above" = some (some (.ref f25))) (l25 : K.lookup f25 = some ⟨oc25, od25, .func (PySem.W.fnOf "_law_above" "_law_above" (defArgs d__law_above) (defBody d__law_above) (defScope d__law_above) .none kV25 dc25 pm25 an25 cd25 ct25), sl25⟩) (c25 : PySem.W.codeIn K cd25 "_law_above" = true) (k25 : PySem.W.keepIn K (.ref f25) = true)
    (a26 : PySem.W.nsIn K mainGlobals "_law_run" = some (some (.ref f26))) (l26 : K.lookup f26 = some ⟨oc26, od26, .func (PySem.W.fnOf "_law_run" "_law_run" (defArgs d__law_run) (defBody d__law_run) (defScope d__law_run) .none kV26 dc26 pm26 an26 cd26 ct26), sl26⟩) (c26 : PySem.W.codeIn K cd26 "_law_run" = true) (k26 : PySem.W.keepIn K (.ref f26) = true)
    (a27 : PySem.W.nsIn K mainGlobals "_law_rows" = some (some (.ref f27))) (l27 : K.lookup f27 = some ⟨oc27, od27, .func (PySem.W.fnOf "_law_rows" "_law_rows" (defArgs d__law_rows) (defBody d__law_rows) (defScope d__law_rows) .none kV27 dc27 pm27 an27 cd27 ct27), sl27⟩) (c27 : PySem.W.codeIn K cd27 "_law_rows" = true) (k27 : PySem.W.keepIn K (.ref f27) = true)
    (a28 : PySem.W.nsIn K mainGlobals "_law_marked" = some (some (.ref f28))) (l28 : K.lookup f28 = some ⟨oc28, od28, .func (PySem.W.fnOf "_law_marked" "_law_marked" (defArgs d__law_marked) (defBody d__law_marked) (defScope d__law_marked) .none kV28 dc28 pm28 an28 cd28 ct28), sl28⟩) (c28 : PySem.W.codeIn K cd28 "_law_marked" = true) (k28 : PySem.W.keepIn K (.ref f28) = true)
    (a29 : PySem.W.nsIn K mainGlobals "_law_draw_machine" = some (some (.ref f29))) (l29 : K.lookup f29 = some ⟨oc29, od29, .func (PySem.W.fnOf "_law_draw_machine" "_law_draw_machine" (defArgs d__law_draw_machine) (defBody d__law_draw_machine) (defScope d__law_draw_machine) .none kV29 dc29 pm29 an29 cd29 ct29), sl29⟩) (c29 : PySem.W.codeIn K cd29 "_law_draw_machine" = true) (k29 : PySem.W.keepIn K (.ref f29) = true)
    (a30 : PySem.W.nsIn K mainGlobals "_law_is_row" = some (some (.ref f30))) (l30 : K.lookup f30 = some ⟨oc30, od30, .func (PySem.W.fnOf "_law_is_row" "_law_is_row" (defArgs d__law_is_row) (defBody d__law_is_row) (defScope d__law_is_row) .none kV30 dc30 pm30 an30 cd30 ct30), sl30⟩) (c30 : PySem.W.codeIn K cd30 "_law_is_row" = true) (k30 : PySem.W.keepIn K (.ref f30) = true)
    (a31 : PySem.W.nsIn K mainGlobals "_law_is_machine" = some (some (.ref f31))) (l31 : K.lookup f31 = some ⟨oc31, od31, .func (PySem.W.fnOf "_law_is_machine" "_law_is_machine" (defArgs d__law_is_machine) (defBody d__law_is_machine) (defScope d__law_is_machine) .none kV31 dc31 pm31 an31 cd31 ct31), sl31⟩) (c31 : PySem.W.codeIn K cd31 "_law_is_machine" = true) (k31 : PySem.W.keepIn K (.ref f31) = true)
    (a32 : PySem.W.nsIn K mainGlobals "_law_spoilt" = some (some (.ref f32))) (l32 : K.lookup f32 = some ⟨oc32, od32, .func (PySem.W.fnOf "_law_spoilt" "_law_spoilt" (defArgs d__law_spoilt) (defBody d__law_spoilt) (defScope d__law_spoilt) .none kV32 dc32 pm32 an32 cd32 ct32), sl32⟩) (c32 : PySem.W.codeIn K cd32 "_law_spoilt" = true) (k32 : PySem.W.keepIn K (.ref f32) = true)
    (a33 : PySem.W.nsIn K mainGlobals "law" = some (some (.ref f33))) (l33 : K.lookup f33 = some ⟨oc33, od33, .func (PySem.W.fnOf "law" "law" (defArgs d_law) (defBody d_law) (defScope d_law) .none kV33 dc33 pm33 an33 cd33 ct33), sl33⟩) (c33 : PySem.W.codeIn K cd33 "law" = true) (k33 : PySem.W.keepIn K (.ref f33) = true)
    (z_abs : PySem.W.nsIn K mainGlobals "abs" = some none)
    (z_int : PySem.W.nsIn K mainGlobals "int" = some none)
    (z_len : PySem.W.nsIn K mainGlobals "len" = some none)
    (z_isinstance : PySem.W.nsIn K mainGlobals "isinstance" = some none)
    (z_bool : PySem.W.nsIn K mainGlobals "bool" = some none)
    (z_str : PySem.W.nsIn K mainGlobals "str" = some none)
    (z_tuple : PySem.W.nsIn K mainGlobals "tuple" = some none)
    (z_list : PySem.W.nsIn K mainGlobals "list" = some none)
    (z_dict : PySem.W.nsIn K mainGlobals "dict" = some none)
    (z_range : PySem.W.nsIn K mainGlobals "range" = some none)
    (z_all : PySem.W.nsIn K mainGlobals "all" = some none)
    (z_any : PySem.W.nsIn K mainGlobals "any" = some none)
    (z_sum : PySem.W.nsIn K mainGlobals "sum" = some none)
    (z_max : PySem.W.nsIn K mainGlobals "max" = some none)
    (z_min : PySem.W.nsIn K mainGlobals "min" = some none)
    (z_sorted : PySem.W.nsIn K mainGlobals "sorted" = some none)
    (z_set : PySem.W.nsIn K mainGlobals "set" = some none)
    (z_reversed : PySem.W.nsIn K mainGlobals "reversed" = some none)
    (z_zip : PySem.W.nsIn K mainGlobals "zip" = some none)
    (z_enumerate : PySem.W.nsIn K mainGlobals "enumerate" = some none)
    (g_MOST_LABELS : PySem.W.nsIn K mainGlobals "MOST_LABELS" = some (some (.int 3 t_MOST_LABELS)))
    (g_MOST_TRACKS : PySem.W.nsIn K mainGlobals "MOST_TRACKS" = some (some (.int 6 t_MOST_TRACKS)))
    (g_MOST_STATES : PySem.W.nsIn K mainGlobals "MOST_STATES" = some (some (.int 300 t_MOST_STATES)))
    (hP : h.get? Pt = some { cls := .none, data := .fields #[] }) (nP : K.lookup Pt = none) (hd : PySem.W.codeHdIn K cL Pt = true)
    : LawAtS l w K CX0 81 63 "script" mg fa h := by
  have bu : Bu mg := ⟨PySem.W.mg_none_of X G z_abs, PySem.W.mg_none_of X G z_int, PySem.W.mg_none_of X G z_len, PySem.W.mg_none_of X G z_isinstance, PySem.W.mg_none_of X G z_bool, PySem.W.mg_none_of X G z_str, PySem.W.mg_none_of X G z_tuple, PySem.W.mg_none_of X G z_list, PySem.W.mg_none_of X G z_dict, PySem.W.mg_none_of X G z_range, PySem.W.mg_none_of X G z_all, PySem.W.mg_none_of X G z_any, PySem.W.mg_none_of X G z_sum, PySem.W.mg_none_of X G z_max, PySem.W.mg_none_of X G z_min, PySem.W.mg_none_of X G z_sorted, PySem.W.mg_none_of X G z_set, PySem.W.mg_none_of X G z_reversed, PySem.W.mg_none_of X G z_zip, PySem.W.mg_none_of X G z_enumerate⟩
  have m_MOST_LABELS : KInt mg "MOST_LABELS" 3 := ⟨_, PySem.W.mg_of X G g_MOST_LABELS⟩
  have m_MOST_TRACKS : KInt mg "MOST_TRACKS" 6 := ⟨_, PySem.W.mg_of X G g_MOST_TRACKS⟩
  have m_MOST_STATES : KInt mg "MOST_STATES" 300 := ⟨_, PySem.W.mg_of X G g_MOST_STATES⟩
  have m_entry := PySem.W.mg_of X G a0
  have F_entry := fun_mk (st := d_entry) l0 c0 k0
  have D_entry : Dfn K mg "entry" ["row", "states"] d_entry := ⟨_, _, F_entry, m_entry, F_entry.binds fun _ _ _ _ _ _ us hl => match us, hl with | [_, _], _ => rfl⟩
  have m_is_whole := PySem.W.mg_of X G a1
  have F_is_whole := fun_mk (st := d_is_whole) l1 c1 k1
  have D_is_whole : Dfn K mg "is_whole" ["value"] d_is_whole := ⟨_, _, F_is_whole, m_is_whole, F_is_whole.binds fun _ _ _ _ _ _ us hl => match us, hl with | [_], _ => rfl⟩
  have m_is_kind := PySem.W.mg_of X G a2
  have F_is_kind := fun_mk (st := d_is_kind) l2 c2 k2
  have D_is_kind : Dfn K mg "is_kind" ["value"] d_is_kind := ⟨_, _, F_is_kind, m_is_kind, F_is_kind.binds fun _ _ _ _ _ _ us hl => match us, hl with | [_], _ => rfl⟩
  have m__is_letter := PySem.W.mg_of X G a3
  have F__is_letter := fun_mk (st := d__is_letter) l3 c3 k3
  have D__is_letter : Dfn K mg "_is_letter" ["value"] d__is_letter := ⟨_, _, F__is_letter, m__is_letter, F__is_letter.binds fun _ _ _ _ _ _ us hl => match us, hl with | [_], _ => rfl⟩
  have m_check_kind := PySem.W.mg_of X G a4
  have F_check_kind := fun_mk (st := d_check_kind) l4 c4 k4
  have D_check_kind : Dfn K mg "check_kind" ["kind"] d_check_kind := ⟨_, _, F_check_kind, m_check_kind, F_check_kind.binds fun _ _ _ _ _ _ us hl => match us, hl with | [_], _ => rfl⟩
  have m__parts := PySem.W.mg_of X G a5
  have F__parts := fun_mk (st := d__parts) l5 c5 k5
  have D__parts : Dfn K mg "_parts" ["shape"] d__parts := ⟨_, _, F__parts, m__parts, F__parts.binds fun _ _ _ _ _ _ us hl => match us, hl with | [_], _ => rfl⟩
  have m_labels_of := PySem.W.mg_of X G a6
  have F_labels_of := fun_mk (st := d_labels_of) l6 c6 k6
  have D_labels_of : Dfn K mg "labels_of" ["shape"] d_labels_of := ⟨_, _, F_labels_of, m_labels_of, F_labels_of.binds fun _ _ _ _ _ _ us hl => match us, hl with | [_], _ => rfl⟩
  have m_folded := PySem.W.mg_of X G a7
  have F_folded := fun_mk (st := d_folded) l7 c7 k7
  have D_folded : Dfn K mg "folded" ["shape", "bottom", "above"] d_folded := ⟨_, _, F_folded, m_folded, F_folded.binds fun _ _ _ _ _ _ us hl => match us, hl with | [_, _, _], _ => rfl⟩
  have m_with_labels := PySem.W.mg_of X G a8
  have F_with_labels := fun_mk (st := d_with_labels) l8 c8 k8
  have D_with_labels : Dfn K mg "with_labels" ["shape", "labels"] d_with_labels := ⟨_, _, F_with_labels, m_with_labels, F_with_labels.binds fun _ _ _ _ _ _ us hl => match us, hl with | [_, _], _ => rfl⟩
  have m_paths := PySem.W.mg_of X G a9
  have F_paths := fun_mk (st := d_paths) l9 c9 k9
  have D_paths : Dfn K mg "paths" ["shape"] d_paths := ⟨_, _, F_paths, m_paths, F_paths.binds fun _ _ _ _ _ _ us hl => match us, hl with | [_], _ => rfl⟩
  have m_is_machine := PySem.W.mg_of X G a10
  have F_is_machine := fun_mk (st := d_is_machine) l10 c10 k10
  have D_is_machine : Dfn K mg "is_machine" ["value"] d_is_machine := ⟨_, _, F_is_machine, m_is_machine, F_is_machine.binds fun _ _ _ _ _ _ us hl => match us, hl with | [_], _ => rfl⟩
  have m__is_row := PySem.W.mg_of X G a11
  have F__is_row := fun_mk (st := d__is_row) l11 c11 k11
  have D__is_row : Dfn K mg "_is_row" ["row", "ways", "count"] d__is_row := ⟨_, _, F__is_row, m__is_row, F__is_row.binds fun _ _ _ _ _ _ us hl => match us, hl with | [_, _, _], _ => rfl⟩
  have m_signs := PySem.W.mg_of X G a12
  have F_signs := fun_mk (st := d_signs) l12 c12 k12
  have D_signs : Dfn K mg "signs" ["kind", "tracks"] d_signs := ⟨_, _, F_signs, m_signs, F_signs.binds fun _ _ _ _ _ _ us hl => match us, hl with | [_, _], _ => rfl⟩
  have m_state_of := PySem.W.mg_of X G a13
  have F_state_of := fun_mk (st := d_state_of) l13 c13 k13
  have FC : FunC K "state_of" "state_of" d_state_of f13 _ cL := ⟨⟨_, _, _, _, _, _, _, _, rfl, l13, c13⟩, k13⟩
  have D_state_of : DfnC K mg "state_of" ["machine", "marked"] d_state_of cL := ⟨_, _, FC, m_state_of, F_state_of.binds fun _ _ _ _ _ _ us hl => match us, hl with | [_, _], _ => rfl⟩
  have m_accepts := PySem.W.mg_of X G a14
  have F_accepts := fun_mk (st := d_accepts) l14 c14 k14
  have D_accepts : Dfn K mg "accepts" ["machine", "marked"] d_accepts := ⟨_, _, F_accepts, m_accepts, F_accepts.binds fun _ _ _ _ _ _ us hl => match us, hl with | [_, _], _ => rfl⟩
  have m_mark := PySem.W.mg_of X G a15
  have F_mark := fun_mk (st := d_mark) l15 c15 k15
  have D_mark : Dfn K mg "mark" ["shape", "sets"] d_mark := ⟨_, _, F_mark, m_mark, F_mark.binds fun _ _ _ _ _ _ us hl => match us, hl with | [_, _], _ => rfl⟩
  have m__law_tape := PySem.W.mg_of X G a16
  have F__law_tape := fun_mk (st := d__law_tape) l16 c16 k16
  have D__law_tape : Dfn K mg "_law_tape" ["script"] d__law_tape := ⟨_, _, F__law_tape, m__law_tape, F__law_tape.binds fun _ _ _ _ _ _ us hl => match us, hl with | [_], _ => rfl⟩
  have m__law_take := PySem.W.mg_of X G a17
  have F__law_take := fun_mk (st := d__law_take) l17 c17 k17
  have D__law_take : Dfn K mg "_law_take" ["tape", "many"] d__law_take := ⟨_, _, F__law_take, m__law_take, F__law_take.binds fun _ _ _ _ _ _ us hl => match us, hl with | [_, _], _ => rfl⟩
  have m__law_is_integer := PySem.W.mg_of X G a18
  have F__law_is_integer := fun_mk (st := d__law_is_integer) l18 c18 k18
  have D__law_is_integer : Dfn K mg "_law_is_integer" ["actual"] d__law_is_integer := ⟨_, _, F__law_is_integer, m__law_is_integer, F__law_is_integer.binds fun _ _ _ _ _ _ us hl => match us, hl with | [_], _ => rfl⟩
  have m__law_same_items := PySem.W.mg_of X G a19
  have F__law_same_items := fun_mk (st := d__law_same_items) l19 c19 k19
  have D__law_same_items : Dfn K mg "_law_same_items" ["actual", "expected"] d__law_same_items := ⟨_, _, F__law_same_items, m__law_same_items, F__law_same_items.binds fun _ _ _ _ _ _ us hl => match us, hl with | [_, _], _ => rfl⟩
  have m__law_same := PySem.W.mg_of X G a20
  have F__law_same := fun_mk (st := d__law_same) l20 c20 k20
  have D__law_same : Dfn K mg "_law_same" ["actual", "expected"] d__law_same := ⟨_, _, F__law_same, m__law_same, F__law_same.binds fun _ _ _ _ _ _ us hl => match us, hl with | [_, _], _ => rfl⟩
  have m__law_kind := PySem.W.mg_of X G a21
  have F__law_kind := fun_mk (st := d__law_kind) l21 c21 k21
  have D__law_kind : Dfn K mg "_law_kind" ["tape"] d__law_kind := ⟨_, _, F__law_kind, m__law_kind, F__law_kind.binds fun _ _ _ _ _ _ us hl => match us, hl with | [_], _ => rfl⟩
  have m__law_shape := PySem.W.mg_of X G a22
  have F__law_shape := fun_mk (st := d__law_shape) l22 c22 k22
  have D__law_shape : Dfn K mg "_law_shape" ["tape", "kind", "count"] d__law_shape := ⟨_, _, F__law_shape, m__law_shape, F__law_shape.binds fun _ _ _ _ _ _ us hl => match us, hl with | [_, _, _], _ => rfl⟩
  have m__law_paths := PySem.W.mg_of X G a23
  have F__law_paths := fun_mk (st := d__law_paths) l23 c23 k23
  have D__law_paths : Dfn K mg "_law_paths" ["shape", "path"] d__law_paths := ⟨_, _, F__law_paths, m__law_paths, F__law_paths.binds fun _ _ _ _ _ _ us hl => match us, hl with | [_, _], _ => rfl⟩
  have m__law_signs := PySem.W.mg_of X G a24
  have F__law_signs := fun_mk (st := d__law_signs) l24 c24 k24
  have D__law_signs : Dfn K mg "_law_signs" ["kind", "tracks"] d__law_signs := ⟨_, _, F__law_signs, m__law_signs, F__law_signs.binds fun _ _ _ _ _ _ us hl => match us, hl with | [_, _], _ => rfl⟩
  have m__law_above := PySem.W.mg_of X G a25
  have F__law_above := fun_mk (st := d__law_above) l25 c25 k25
  have D__law_above : Dfn K mg "_law_above" ["machine", "row", "children"] d__law_above := ⟨_, _, F__law_above, m__law_above, F__law_above.binds fun _ _ _ _ _ _ us hl => match us, hl with | [_, _, _], _ => rfl⟩
  have m__law_run := PySem.W.mg_of X G a26
  have F__law_run := fun_mk (st := d__law_run) l26 c26 k26
  have D__law_run : Dfn K mg "_law_run" ["machine", "marked", "rows"] d__law_run := ⟨_, _, F__law_run, m__law_run, F__law_run.binds fun _ _ _ _ _ _ us hl => match us, hl with | [_, _, _], _ => rfl⟩
  have m__law_rows := PySem.W.mg_of X G a27
  have F__law_rows := fun_mk (st := d__law_rows) l27 c27 k27
  have D__law_rows : Dfn K mg "_law_rows" ["kind", "tracks"] d__law_rows := ⟨_, _, F__law_rows, m__law_rows, F__law_rows.binds fun _ _ _ _ _ _ us hl => match us, hl with | [_, _], _ => rfl⟩
  have m__law_marked := PySem.W.mg_of X G a28
  have F__law_marked := fun_mk (st := d__law_marked) l28 c28 k28
  have D__law_marked : Dfn K mg "_law_marked" ["shape", "path", "sets"] d__law_marked := ⟨_, _, F__law_marked, m__law_marked, F__law_marked.binds fun _ _ _ _ _ _ us hl => match us, hl with | [_, _, _], _ => rfl⟩
  have m__law_draw_machine := PySem.W.mg_of X G a29
  have F__law_draw_machine := fun_mk (st := d__law_draw_machine) l29 c29 k29
  have D__law_draw_machine : Dfn K mg "_law_draw_machine" ["tape", "kind", "tracks", "many"] d__law_draw_machine := ⟨_, _, F__law_draw_machine, m__law_draw_machine, F__law_draw_machine.binds fun _ _ _ _ _ _ us hl => match us, hl with | [_, _, _, _], _ => rfl⟩
  have m__law_is_row := PySem.W.mg_of X G a30
  have F__law_is_row := fun_mk (st := d__law_is_row) l30 c30 k30
  have D__law_is_row : Dfn K mg "_law_is_row" ["value", "many", "levels"] d__law_is_row := ⟨_, _, F__law_is_row, m__law_is_row, F__law_is_row.binds fun _ _ _ _ _ _ us hl => match us, hl with | [_, _, _], _ => rfl⟩
  have m__law_is_machine := PySem.W.mg_of X G a31
  have F__law_is_machine := fun_mk (st := d__law_is_machine) l31 c31 k31
  have D__law_is_machine : Dfn K mg "_law_is_machine" ["value"] d__law_is_machine := ⟨_, _, F__law_is_machine, m__law_is_machine, F__law_is_machine.binds fun _ _ _ _ _ _ us hl => match us, hl with | [_], _ => rfl⟩
  have m__law_spoilt := PySem.W.mg_of X G a32
  have F__law_spoilt := fun_mk (st := d__law_spoilt) l32 c32 k32
  have D__law_spoilt : Dfn K mg "_law_spoilt" ["tape", "machine"] d__law_spoilt := ⟨_, _, F__law_spoilt, m__law_spoilt, F__law_spoilt.binds fun _ _ _ _ _ _ us hl => match us, hl with | [_, _], _ => rfl⟩
  have m_law := PySem.W.mg_of X G a33
  have F_law := fun_mk (st := d_law) l33 c33 k33
  have D_law : Dfn K mg "law" ["script"] d_law := ⟨_, _, F_law, m_law, F_law.binds fun _ _ _ _ _ _ us hl => match us, hl with | [_], _ => rfl⟩
  have e := hfa.symm.trans m_law
  cases e
  letI : Tb w := ⟨[(Pt, fun _ _ => lamQ)]⟩
  refine ⟨PySem.W.fnOf "law" "law" (defArgs d_law) (defBody d_law) (defScope d_law) .none kV33 dc33 pm33 an33 cd33 ct33, [(cL, Pt)], spG K GLaw, fun p hp => ?_, fun p hp => ?_, fun p hp => ?_, fun s v => .of_eq rfl, fun H a ns hn _ hT hS => ?_, fun base _ _ hB => ?_⟩
  · rw [List.mem_singleton.mp hp]
    exact hP
  · rw [List.mem_singleton.mp hp]
    exact nP
  · rw [List.mem_singleton.mp hp]
    exact PySem.W.codeHd_of_K X hd
  · exact law_in (fun p hp => by rw [List.mem_singleton.mp hp]; exact hT (cL, Pt) (List.mem_singleton.mpr rfl)) (fun ns hn => ⟨ns, rfl, hn, rfl, fun _ => rfl⟩) H a ns hn hS
  · have TB : LamX.TabB base mg cL Pt := hB (cL, Pt) (List.mem_singleton.mpr rfl)
    have c__law_tape := ok_tape (P := l.prog) (w := w) (base := base) (k := 0) bu D__law_tape
    have c__law_take := ok_take (P := l.prog) (w := w) (base := base) (k := 0) bu D__law_take
    have c__law_is_integer := ok_isint (P := l.prog) (w := w) (base := base) (k := 0) bu D__law_is_integer
    have c__law_same := ok_same (P := l.prog) (w := w) (base := base) (k := 1) bu c__law_is_integer D__law_same_items D__law_same 20
    have c__law_kind := ok_kind (P := l.prog) (w := w) (base := base) c__law_take D__law_kind
    have c__law_shape := ok_shape (P := l.prog) (w := w) (base := base) bu c__law_take D__law_shape 10
    have c__law_paths := ok_paths (P := l.prog) (w := w) (base := base) (k := 0) bu D__law_paths 61
    have c_entry := fun base => ok_entry (P := l.prog) (w := w) (base := base) (mg := mg) (k := 0) D_entry
    have c_parts := fun base => ok_parts (P := l.prog) (w := w) (base := base) (k := 0) bu D__parts
    have c_labels := ok_labels (P := l.prog) (w := w) (base := base) (c_parts base) D_labels_of
    have c_with := ok_with (P := l.prog) (w := w) (base := base) bu (c_parts base) D_with_labels
    have c_paths := ok_pathsP (P := l.prog) (w := w) (base := base) (k := 0) bu D_paths
    have c_mark := ok_mark (P := l.prog) (w := w) (base := base) (k := 2) bu (c_paths.mono (by decide)) (c_labels.mono (by decide)) (c_with.mono (by decide)) D_mark
    have c_is_whole := ok_whole (P := l.prog) (w := w) (base := base) (k := 0) bu D_is_whole
    have c__is_letter := ok_letter (P := l.prog) (w := w) (base := base) (k := 0) bu D__is_letter
    have c_is_kind := ok_is_kind (P := l.prog) (w := w) (base := base) bu m_MOST_LABELS c_is_whole c__is_letter D_is_kind
    have c_check := ok_check (P := l.prog) (w := w) (base := base) c_is_kind D_check_kind
    have c_signs := ok_signs (P := l.prog) (w := w) (base := base) bu c_check D_signs
    have c__law_signs := ok_lsigns (P := l.prog) (w := w) (base := base) (k := 0) bu D__law_signs
    have c__law_marked := ok_lmark (P := l.prog) (w := w) (base := base) (k := 0) bu D__law_marked 61
    have c_folded := ok_folded (P := l.prog) (w := w) (k := 2) (CAb := CAb7) bu (fun base => (c_parts base).mono (by decide)) (fun cl base ws wd f c hci => (ok_lam7 (k := 1) c_entry cl base ws wd f c hci)) D_folded
    have c_state_of := ok_state_of (P := l.prog) (w := w) (base := base) (k := 6) bu (List.mem_singleton.mpr rfl) (fun p hp _ => by rw [List.mem_singleton.mp hp]) TB (c_signs.mono (by decide)) (c_folded.mono (by decide)) D_state_of
    have c_accepts := ok_accepts (P := l.prog) (w := w) (base := base) c_state_of D_accepts
    have c__law_rows := ok_lrows (P := l.prog) (w := w) (base := base) bu c__law_signs D__law_rows
    have c__law_above := ok_labove (P := l.prog) (w := w) (base := base) (mg := mg) (k := 0) D__law_above
    have c__law_run := ok_lrun (P := l.prog) (w := w) (base := base) c__law_above D__law_run 61
    have c__law_draw := ok_draw (P := l.prog) (w := w) (base := base) bu c__law_take c__law_signs D__law_draw_machine
    have c__is_row := ok_isrow (P := l.prog) (w := w) (base := base) bu c_is_whole D__is_row 2
    have c_is_machine := ok_is_machine (P := l.prog) (w := w) (base := base) (k := 6) bu m_MOST_TRACKS m_MOST_STATES (c_is_kind.mono (by decide)) (c_is_whole.mono (by decide)) (c_signs.mono (by decide)) (c__is_row.mono (by decide)) D_is_machine
    have c__law_is_row := ok_lisrow (P := l.prog) (w := w) (base := base) (k := 0) bu D__law_is_row 3
    have c__law_is_machine := ok_lis_machine (P := l.prog) (w := w) (base := base) (k := 6) bu (c__law_signs.mono (by decide)) (c__law_is_row.mono (by decide)) D__law_is_machine
    have c__law_spoilt := ok_spoilt (P := l.prog) (w := w) (base := base) bu c__law_take D__law_spoilt
    exact fn_law (k := 80) F_law bu (c__law_tape.mono (by decide)) (c__law_take.mono (by decide)) (c__law_kind.mono (by decide)) (c__law_shape.mono (by decide)) (c__law_paths.mono (by decide)) (c__law_draw.mono (by decide)) (c__law_signs.mono (by decide)) (c__law_same.mono (by decide)) (c_signs.mono (by decide)) (c_is_machine.mono (by decide)) (c__law_marked.mono (by decide)) (c_mark.mono (by decide)) (c__law_run.mono (by decide)) (c__law_rows.mono (by decide)) (c_state_of.mono (by decide)) (c_accepts.mono (by decide)) (c__law_spoilt.mono (by decide)) (c__law_is_machine.mono (by decide))
end Y

set_option Elab.async false
open PySem PySem.W PyProof.Rows
set_option maxRecDepth 100000 in
set_option maxHeartbeats 0 in
theorem PySem.Challenge.cw_treesays_k07_runs_of_machines_holds : PySem.Challenge.rw_treesays_k07_runs_of_machines.Holds := by
  w_on; o_law; k_head; (case hw => w_witness2)
  k_fill
  refine LamX.walk_ofTs (l := PySem.Challenge.rw_treesays_k07_runs_of_machines) (n := 63) (k := 81) (x := "script") (CX := fun _ => L2.CX0) rfl (by decide) rfl ⟨rfl, by decide, by decide⟩ (fun w h Y => PySem.W.km_in_of Y) ?F (fun _ _ _ _ _ h => h)
  case F =>
    intro w mg fa h Y0 KX G hmg
    refine' Y.all_mk KX G hmg ?a0 ?l0 ?c0 ?k0 ?a1 ?l1 ?c1 ?k1 ?a2 ?l2 ?c2 ?k2 ?a3 ?l3 ?c3 ?k3 ?a4 ?l4 ?c4 ?k4 ?a5 ?l5 ?c5 ?k5 ?a6 ?l6 ?c6 ?k6 ?a7 ?l7 ?c7 ?k7 ?a8 ?l8 ?c8 ?k8 ?a9 ?l9 ?c9 ?k9 ?a10 ?l10 ?c10 ?k10 ?a11 ?l11 ?c11 ?k11 ?a12 ?l12 ?c12 ?k12 ?a13 ?l13 ?c13 ?k13 ?a14 ?l14 ?c14 ?k14 ?a15 ?l15 ?c15 ?k15 ?a16 ?l16 ?c16 ?k16 ?a17 ?l17 ?c17 ?k17 ?a18 ?l18 ?c18 ?k18 ?a19 ?l19 ?c19 ?k19 ?a20 ?l20 ?c20 ?k20 ?a21 ?l21 ?c21 ?k21 ?a22 ?l22 ?c22 ?k22 ?a23 ?l23 ?c23 ?k23 ?a24 ?l24 ?c24 ?k24 ?a25 ?l25 ?c25 ?k25 ?a26 ?l26 ?c26 ?k26 ?a27 ?l27 ?c27 ?k27 ?a28 ?l28 ?c28 ?k28 ?a29 ?l29 ?c29 ?k29 ?a30 ?l30 ?c30 ?k30 ?a31 ?l31 ?c31 ?k31 ?a32 ?l32 ?c32 ?k32 ?a33 ?l33 ?c33 ?k33 ?z_abs ?z_int ?z_len ?z_isinstance ?z_bool ?z_str ?z_tuple ?z_list ?z_dict ?z_range ?z_all ?z_any ?z_sum ?z_max ?z_min ?z_sorted ?z_set ?z_reversed ?z_zip ?z_enumerate ?g_MOST_LABELS ?g_MOST_TRACKS ?g_MOST_STATES (PySem.W.km_tabs_of Y0 _ List.mem_cons_self) ?nP ?hd
    (case a0 => first | k_is | rfl | decide +kernel)
    (case l0 => first | k_is | rfl | decide +kernel)
    (case c0 => first | k_is | rfl | decide +kernel)
    (case k0 => first | k_is | rfl | decide +kernel)
    (case a1 => first | k_is | rfl | decide +kernel)
    (case l1 => first | k_is | rfl | decide +kernel)
    (case c1 => first | k_is | rfl | decide +kernel)
    (case k1 => first | k_is | rfl | decide +kernel)
    (case a2 => first | k_is | rfl | decide +kernel)
    (case l2 => first | k_is | rfl | decide +kernel)
    (case c2 => first | k_is | rfl | decide +kernel)
    (case k2 => first | k_is | rfl | decide +kernel)
    (case a3 => first | k_is | rfl | decide +kernel)
    (case l3 => first | k_is | rfl | decide +kernel)
    (case c3 => first | k_is | rfl | decide +kernel)
    (case k3 => first | k_is | rfl | decide +kernel)
    (case a4 => first | k_is | rfl | decide +kernel)
    (case l4 => first | k_is | rfl | decide +kernel)
    (case c4 => first | k_is | rfl | decide +kernel)
    (case k4 => first | k_is | rfl | decide +kernel)
    (case a5 => first | k_is | rfl | decide +kernel)
    (case l5 => first | k_is | rfl | decide +kernel)
    (case c5 => first | k_is | rfl | decide +kernel)
    (case k5 => first | k_is | rfl | decide +kernel)
    (case a6 => first | k_is | rfl | decide +kernel)
    (case l6 => first | k_is | rfl | decide +kernel)
    (case c6 => first | k_is | rfl | decide +kernel)
    (case k6 => first | k_is | rfl | decide +kernel)
    (case a7 => first | k_is | rfl | decide +kernel)
    (case l7 => first | k_is | rfl | decide +kernel)
    (case c7 => first | k_is | rfl | decide +kernel)
    (case k7 => first | k_is | rfl | decide +kernel)
    (case a8 => first | k_is | rfl | decide +kernel)
    (case l8 => first | k_is | rfl | decide +kernel)
    (case c8 => first | k_is | rfl | decide +kernel)
    (case k8 => first | k_is | rfl | decide +kernel)
    (case a9 => first | k_is | rfl | decide +kernel)
    (case l9 => first | k_is | rfl | decide +kernel)
    (case c9 => first | k_is | rfl | decide +kernel)
    (case k9 => first | k_is | rfl | decide +kernel)
    (case a10 => first | k_is | rfl | decide +kernel)
    (case l10 => first | k_is | rfl | decide +kernel)
    (case c10 => first | k_is | rfl | decide +kernel)
    (case k10 => first | k_is | rfl | decide +kernel)
    (case a11 => first | k_is | rfl | decide +kernel)
    (case l11 => first | k_is | rfl | decide +kernel)
    (case c11 => first | k_is | rfl | decide +kernel)
    (case k11 => first | k_is | rfl | decide +kernel)
    (case a12 => first | k_is | rfl | decide +kernel)
    (case l12 => first | k_is | rfl | decide +kernel)
    (case c12 => first | k_is | rfl | decide +kernel)
    (case k12 => first | k_is | rfl | decide +kernel)
    (case a13 => first | k_is | rfl | decide +kernel)
    (case l13 => first | k_is | rfl | decide +kernel)
    (case c13 => first | k_is | rfl | decide +kernel)
    (case k13 => first | k_is | rfl | decide +kernel)
    (case a14 => first | k_is | rfl | decide +kernel)
    (case l14 => first | k_is | rfl | decide +kernel)
    (case c14 => first | k_is | rfl | decide +kernel)
    (case k14 => first | k_is | rfl | decide +kernel)
    (case a15 => first | k_is | rfl | decide +kernel)
    (case l15 => first | k_is | rfl | decide +kernel)
    (case c15 => first | k_is | rfl | decide +kernel)
    (case k15 => first | k_is | rfl | decide +kernel)
    (case a16 => first | k_is | rfl | decide +kernel)
    (case l16 => first | k_is | rfl | decide +kernel)
    (case c16 => first | k_is | rfl | decide +kernel)
    (case k16 => first | k_is | rfl | decide +kernel)
    (case a17 => first | k_is | rfl | decide +kernel)
    (case l17 => first | k_is | rfl | decide +kernel)
    (case c17 => first | k_is | rfl | decide +kernel)
    (case k17 => first | k_is | rfl | decide +kernel)
    (case a18 => first | k_is | rfl | decide +kernel)
    (case l18 => first | k_is | rfl | decide +kernel)
    (case c18 => first | k_is | rfl | decide +kernel)
    (case k18 => first | k_is | rfl | decide +kernel)
    (case a19 => first | k_is | rfl | decide +kernel)
    (case l19 => first | k_is | rfl | decide +kernel)
    (case c19 => first | k_is | rfl | decide +kernel)
    (case k19 => first | k_is | rfl | decide +kernel)
    (case a20 => first | k_is | rfl | decide +kernel)
    (case l20 => first | k_is | rfl | decide +kernel)
    (case c20 => first | k_is | rfl | decide +kernel)
    (case k20 => first | k_is | rfl | decide +kernel)
    (case a21 => first | k_is | rfl | decide +kernel)
    (case l21 => first | k_is | rfl | decide +kernel)
    (case c21 => first | k_is | rfl | decide +kernel)
    (case k21 => first | k_is | rfl | decide +kernel)
    (case a22 => first | k_is | rfl | decide +kernel)
    (case l22 => first | k_is | rfl | decide +kernel)
    (case c22 => first | k_is | rfl | decide +kernel)
    (case k22 => first | k_is | rfl | decide +kernel)
    (case a23 => first | k_is | rfl | decide +kernel)
    (case l23 => first | k_is | rfl | decide +kernel)
    (case c23 => first | k_is | rfl | decide +kernel)
    (case k23 => first | k_is | rfl | decide +kernel)
    (case a24 => first | k_is | rfl | decide +kernel)
    (case l24 => first | k_is | rfl | decide +kernel)
    (case c24 => first | k_is | rfl | decide +kernel)
    (case k24 => first | k_is | rfl | decide +kernel)
    (case a25 => first | k_is | rfl | decide +kernel)
    (case l25 => first | k_is | rfl | decide +kernel)
    (case c25 => first | k_is | rfl | decide +kernel)
    (case k25 => first | k_is | rfl | decide +kernel)
    (case a26 => first | k_is | rfl | decide +kernel)
    (case l26 => first | k_is | rfl | decide +kernel)
    (case c26 => first | k_is | rfl | decide +kernel)
    (case k26 => first | k_is | rfl | decide +kernel)
    (case a27 => first | k_is | rfl | decide +kernel)
    (case l27 => first | k_is | rfl | decide +kernel)
    (case c27 => first | k_is | rfl | decide +kernel)
    (case k27 => first | k_is | rfl | decide +kernel)
    (case a28 => first | k_is | rfl | decide +kernel)
    (case l28 => first | k_is | rfl | decide +kernel)
    (case c28 => first | k_is | rfl | decide +kernel)
    (case k28 => first | k_is | rfl | decide +kernel)
    (case a29 => first | k_is | rfl | decide +kernel)
    (case l29 => first | k_is | rfl | decide +kernel)
    (case c29 => first | k_is | rfl | decide +kernel)
    (case k29 => first | k_is | rfl | decide +kernel)
    (case a30 => first | k_is | rfl | decide +kernel)
    (case l30 => first | k_is | rfl | decide +kernel)
    (case c30 => first | k_is | rfl | decide +kernel)
    (case k30 => first | k_is | rfl | decide +kernel)
    (case a31 => first | k_is | rfl | decide +kernel)
    (case l31 => first | k_is | rfl | decide +kernel)
    (case c31 => first | k_is | rfl | decide +kernel)
    (case k31 => first | k_is | rfl | decide +kernel)
    (case a32 => first | k_is | rfl | decide +kernel)
    (case l32 => first | k_is | rfl | decide +kernel)
    (case c32 => first | k_is | rfl | decide +kernel)
    (case k32 => first | k_is | rfl | decide +kernel)
    (case a33 => first | k_is | rfl | decide +kernel)
    (case l33 => first | k_is | rfl | decide +kernel)
    (case c33 => first | k_is | rfl | decide +kernel)
    (case k33 => first | k_is | rfl | decide +kernel)
    (case z_abs => first | k_is | rfl | decide +kernel)
    (case z_int => first | k_is | rfl | decide +kernel)
    (case z_len => first | k_is | rfl | decide +kernel)
    (case z_isinstance => first | k_is | rfl | decide +kernel)
    (case z_bool => first | k_is | rfl | decide +kernel)
    (case z_str => first | k_is | rfl | decide +kernel)
    (case z_tuple => first | k_is | rfl | decide +kernel)
    (case z_list => first | k_is | rfl | decide +kernel)
    (case z_dict => first | k_is | rfl | decide +kernel)
    (case z_range => first | k_is | rfl | decide +kernel)
    (case z_all => first | k_is | rfl | decide +kernel)
    (case z_any => first | k_is | rfl | decide +kernel)
    (case z_sum => first | k_is | rfl | decide +kernel)
    (case z_max => first | k_is | rfl | decide +kernel)
    (case z_min => first | k_is | rfl | decide +kernel)
    (case z_sorted => first | k_is | rfl | decide +kernel)
    (case z_set => first | k_is | rfl | decide +kernel)
    (case z_reversed => first | k_is | rfl | decide +kernel)
    (case z_zip => first | k_is | rfl | decide +kernel)
    (case z_enumerate => first | k_is | rfl | decide +kernel)
    (case g_MOST_LABELS => first | k_is | rfl | decide +kernel)
    (case g_MOST_TRACKS => first | k_is | rfl | decide +kernel)
    (case g_MOST_STATES => first | k_is | rfl | decide +kernel)
    (case nP => first | k_is | rfl | decide +kernel)
    (case hd => first | k_is | rfl | decide +kernel)

